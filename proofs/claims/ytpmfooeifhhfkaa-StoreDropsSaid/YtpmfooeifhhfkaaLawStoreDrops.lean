/-
  StoreDrops: the law, walked from contracts.
-/
import Derived.Test.YtpmfooeifhhfkaaStoreV
import Derived.Deep.CutRange
namespace Go.Proofs.Ytpmfooeifhhfkaa
open Go.RowKit Go.Maps

theorem Slot_info : ((Try.prog.info? 45).map (fun i => (i.zero, i.size, i.bytes))) = some (some (.agg #[.int .i64 0, .int .i64 0, .bool false, .bool false, .bool false]), 5, 24) := by kernel_rfl
set_option maxRecDepth 100000 in
set_option maxHeartbeats 20000000 in
/-- behind a Drop nobody tells the page, nor does it tell anything; all other slots are as they were; its frame is the next one that is taken -/
theorem lawStoreDrops_any (A : Option Addr) (n c : Nat) (L : List Ost) (at_ : Nat) (k0 : Ky) (w : World) (hat_ : at_ ≤ 255) (hl : OpsIn w A n L) :
    Calls Try.prog 7 #[.slice A n c, .int .u8 at_, .agg k0.cs] w fun e w' => e = .returned (.bool true) ∧ Chg [] w w' := by
  obtain ⟨kg, kl, kr⟩ := k0
  simp only [Ky.cs]
  have hNew := fun w' => New_at 24 w' (by omega) (by omega)
  have hHd := fun w' => SThead_any w'
  have hn9 := hl.sl.le
  have hnn := hl.sl.len
  replace hnn := Lib.hid hnn
  have H0 := (SepC.nil w).alloc #[.int .i64 kg, .int .i64 kl, .int .i64 kr] 24
  by_cases h200 : (200 : Int) < n
  · have hgt : decide ((n : Int) > 200) = true := by simpa using h200
    go_enter Try.func7, Try.ntmps7
    go_wp2_with fail
    generalize (w.alloc (.cells #[.int .i64 kg, .int .i64 kl, .int .i64 kr] 24)) = z0 at *
    refine (hHd _).mono ?_; rintro e z1 ⟨rfl, y1⟩
    have H1 := H0.new y1
    clear H0 y1 hHd
    go_wp2_with fail
    refine (hNew _).mono ?_; rintro e z2 ⟨hp, hb, rfl, y2, hm, hg1, hg2⟩
    have H2 := H1.new y2
    clear hm hg1 hg2 H1 hNew
    go_wp2_with fail
    go_ret
    exact ⟨rfl, H2.1⟩
  have hgt : decide ((n : Int) > 200) = false := by simpa using h200
  go_enter Try.func7, Try.ntmps7
  go_wp2_with fail
  generalize (w.alloc (.cells #[.int .i64 kg, .int .i64 kl, .int .i64 kr] 24)) = z0 at *
  refine (hHd _).mono ?_; rintro e z1 ⟨rfl, y1⟩
  have H1 := H0.new y1
  clear H0 y1 hHd
  go_wp2_with fail
  refine (hNew _).mono ?_; rintro e z2 ⟨hp, hb, rfl, y2, hm, hg1, hg2⟩
  have H2 := H1.lay (P := hoT hp hb 24 (zeros 192)) (S := [hb, hp]) y2 ⟨rfl, hm⟩ (by intro i hi; simp only [List.mem_cons, List.not_mem_nil, or_false] at hi; rcases hi with rfl | rfl <;> assumption)
  clear hm hg1 hg2 H1 hNew
  have hn200 : n ≤ 200 := by omega
  change SepC w z2 (hoT hp hb 24 (zeros 192) :: blkT w.heap.size 24 #[.int .i64 kg, .int .i64 kl, .int .i64 kr] :: []) at H2
  go_wp2_with fail
  refine (H2.sNew (a := 6) (m := 9) (by omega)).mono ?_; rintro e z3 ⟨q, rfl, H3⟩
  change SepC w z3 (stT q hp hb 24 6 9 (st0 9) :: _) at H3
  clear H2
  go_wp2_with fail
  go_loopw [10] (fun s_ wr => ∃ k : Nat, k ≤ n ∧ s_ = .int .i64 k ∧ SepC w wr (stT q hp hb 24 6 9 (runP 24 (st0 9) (L.take k)) :: blkT w.heap.size 24 #[.int .i64 kg, .int .i64 kl, .int .i64 kr] :: [])) (fun s_ _ => n - (intOf s_).toNat)
  case atStart => exact ⟨0, Nat.zero_le _, rfl, by simpa [runP] using H3⟩
  case round =>
    obtain ⟨k, hk, rfl, H⟩ := hrel
    clear H3
    by_cases hlt : k < n
    · have hltz : (k : Int) < (n : Int) := by omega
      obtain ⟨b, off, o, rfl, ho, c0, c1, c2, c3, c4, c5, c6, c7, c8, c9, c10⟩ := opE_cells (hl.new H.1).sl hlt
      have hP := H.sPlay o (hl.at_ ho)
      rw [← runP_take ho] at hP
      simp only [Ost.cs] at hP
      clear H
      go_wp2_with fail
      refine hP.mono ?_; rintro e w2 ⟨rfl, H2⟩
      clear hP c0 c1 c2 c3 c4 c5 c6 c7 c8 c9 c10
      go_wp2_with fail
      go_roundw
      case rel => exact ⟨k + 1, by omega, by go_num, H2⟩
      case measure => simp [intOf]; omega
    · obtain rfl : k = n := by omega
      have hltz : ¬ (k : Int) < (k : Int) := by omega
      rw [List.take_of_length_le (Nat.le_of_eq hnn.out)] at H
      obtain ⟨s, hs⟩ : ∃ s, runP 24 (st0 9) L = s := ⟨_, rfl⟩
      rw [hs] at H
      have hok := H.sok
      clear hs hltz
      have hN := hok.le256
      obtain ⟨K1, hK10, hK1l, hK1n, hK1s, hK1a⟩ := hok.slotsN
      have hpl := fun j (hj : j < s.L.length) => hok.place hj
      have hsl := fun j i (hi : i < 8) q_ (hq : s.L[j]? = some q_) => hok.slotAt (j := j) hi hq
      have hdr := fun q_ (hq_ : q_ ∈ s.L) => hok.dropped hq_
      have h0L := fun (h0 : s.L.length = 0) => drop_none (List.eq_nil_of_length_eq_zero h0) 6
      have cA := H.sAll
      rw [List.length_map] at cA
      obtain ⟨F7, hF7⟩ : ∃ F7, s.L.map Pg.f = F7 := ⟨_, rfl⟩
      rw [hF7] at cA hpl
      clear hF7
      obtain ⟨N7, hN7⟩ : ∃ N7, s.L.length = N7 := ⟨_, rfl⟩
      rw [hN7] at cA hpl hN hK1n hK1a h0L
      clear hN7
      replace hK10 := Lib.hid hK10
      clear hok
      go_wp2_with fail
      refine (cA).mono ?_; rintro e z7 ⟨A7, c7, rfl, H7⟩
      have H8 := H7.swap
      clear H H7 cA
      by_cases hN0 : N7 = 0
      · subst hN0
        have hd6 := h0L rfl
        have cD := H8.sDrop 6 (by omega)
        rw [hd6] at cD
        clear hd6 h0L
        go_wp2_with fail
        refine (cD).mono ?_; rintro e z8 ⟨rfl, H9⟩
        go_wp2_with fail
        go_ret
        exact ⟨rfl, H9.1⟩
      clear h0L
      have hNi : ¬ (N7 : Int) = 0 := by omega
      have hNb : ((N7 : Int) == 0) = false := by simpa using hNi
      obtain ⟨J, hJ⟩ : ∃ J, at_ % N7 = J := ⟨_, rfl⟩
      have hJN : J < N7 := by rw [← hJ]; exact Nat.mod_lt _ (by omega)
      have hJz : (J : Int) < (N7 : Int) := by omega
      have hrem : ((at_ : Nat) : Int) % (N7 : Int) = (J : Int) := by rw [← hJ]; rfl
      have hremt : ((at_ : Nat) : Int).tmod (N7 : Int) = (J : Int) := by rw [← hJ]; rfl
      replace hJ := Lib.hid hJ
      obtain ⟨qJ, _, hqmJ, _, _, hqrJ, hqFJ⟩ := hpl J hJN
      obtain ⟨ab, aoff, ax, rfl, _, hax, hac⟩ := SlN.get (H8.pick 1 rfl).own.slg hJN
      rw [hqFJ] at hax; cases hax
      have hdj := hdr qJ hqmJ
      have hprJ : -9223372036854775808 ≤ qJ.f ∧ qJ.f ≤ 9223372036854775807 := by omega
      clear hqrJ hqFJ hqmJ hdr
      generalize qJ.f = fp at *
      obtain ⟨hdj1, hdj2, hdj3⟩ := hdj
      have hfd := fun f i => slot_drop hdj1 f i
      have hmk := fun k_ => make_drop hdj1 (k := k_)
      have H9 := (H8.ownNil sltE 45)
      replace H9 : SepC w z7 (stT q hp hb 24 6 9 s :: ownT (numE .i64) 3 (.slice (some ⟨ab, aoff, none⟩) N7 c7) F7 :: ownT sltE 45 (.slice none 0 0) [] :: blkT w.heap.size 24 #[.int .i64 kg, .int .i64 kl, .int .i64 kr] :: []) := (H9.pick 2 rfl).pick 2 rfl
      clear H8
      go_wp2_with fail
      clear hrem hremt hac
      go_loopw [13, 14] (fun s13 s14 wr => ∃ (j : Nat) (Ak : Option Addr) (ck : Nat), j ≤ N7 ∧ s14 = .int .i64 j ∧ s13 = .slice Ak (K1 (8 * j)).length ck ∧ SepC w wr (stT q hp hb 24 6 9 s :: ownT (numE .i64) 3 (.slice (some ⟨ab, aoff, none⟩) N7 c7) F7 :: ownT sltE 45 (.slice Ak (K1 (8 * j)).length ck) (K1 (8 * j)) :: blkT w.heap.size 24 #[.int .i64 kg, .int .i64 kl, .int .i64 kr] :: [])) (fun _ s14 _ => N7 - (intOf s14).toNat)
      case atStart => exact ⟨0, none, 0, Nat.zero_le _, rfl, by rw [Nat.mul_zero, hK10.out]; rfl, by rw [Nat.mul_zero, hK10.out]; exact H9⟩
      case round =>
        obtain ⟨j, Ak, ck, hj, rfl, rfl, H⟩ := hrel
        clear H9
        by_cases hjl : j < N7
        · have hjz : (j : Int) < (N7 : Int) := by omega
          obtain ⟨qj, hq0, hqm, hqa, hqk, hqr, hqF⟩ := hpl j hjl
          have hpr : -9223372036854775808 ≤ qj.f ∧ qj.f ≤ 9223372036854775807 := by omega
          have hacO : ∀ w', OwnG (numE .i64) w' 3 (.slice (some ⟨ab, aoff, none⟩) N7 c7) F7 → w'.cell? ⟨ab, aoff + j, none⟩ = some (.int .i64 qj.f) := fun w' ho => by
            obtain ⟨b_, o_, x_, hb_, _, hx_, hc_⟩ := SlN.get ho.slg hjl
            cases hb_
            rw [hqF] at hx_; cases hx_
            exact hc_
          have hsq := fun i hi => hsl j i hi qj hq0
          have hS1 := fun i x (hi : i < 8) (hx : qj.s[i]? = some x) => hK1s j i qj x hq0 hi hx
          clear hq0 hqk hqa hqm hqr hqF
          generalize qj.f = fj at *
          skip
          go_wp2_with fail
          go_loopw [13, 15] (fun s13 s15 wr => ∃ (i : Nat) (Ak : Option Addr) (ck : Nat), i ≤ 8 ∧ s15 = .int .i64 i ∧ s13 = .slice Ak (K1 (8 * j + i)).length ck ∧ SepC w wr (stT q hp hb 24 6 9 s :: ownT (numE .i64) 3 (.slice (some ⟨ab, aoff, none⟩) N7 c7) F7 :: ownT sltE 45 (.slice Ak (K1 (8 * j + i)).length ck) (K1 (8 * j + i)) :: blkT w.heap.size 24 #[.int .i64 kg, .int .i64 kl, .int .i64 kr] :: [])) (fun _ s15 _ => 8 - (intOf s15).toNat)
          case atStart => exact ⟨0, Ak, ck, by omega, rfl, rfl, H⟩
          case round =>
            obtain ⟨i, Ak, ck, hi, rfl, rfl, H10⟩ := hrel
            clear H
            by_cases hi8 : i < 8
            · have hiz : (i : Int) < 8 := by omega
              obtain ⟨x, hx0, hx1, hx2, _⟩ := hsq i hi8
              have e1 := hS1 i x hi8 hx0
              replace e1 := Lib.hid e1
              have hac := hacO _ (H10.pick 1 rfl).own
              have cS := H10.sSlot fj i hpr
              rw [slotV_at hx1, hx1] at cS
              obtain ⟨kd, t_, ⟨rw_, ru, rx⟩⟩ := x
              simp only [Option.isSome_some, Slt.cl] at cS
              clear hx0 hx1 hx2
              go_wp2_with fail
              refine (cS).mono ?_; rintro e z12 ⟨rfl, y12⟩
              clear cS hac
              have H12 := (H10.new y12).alloc #[.int .i64 kd, .int .i64 t_, .bool rw_, .bool ru, .bool rx] 45
              clear H10 y12
              have bx := H12.blk
              replace H12 := H12.tail
              go_upto_region 24 with fail
              generalize z12.alloc (.cells #[.int .i64 kd, .int .i64 t_, .bool rw_, .bool ru, .bool rx] 45) = z13 at *
              generalize z12.heap.size = sb at *
              have e0 := bx.cell 0; have e2 := bx.cell 1; have e3 := bx.cell 2; have e4 := bx.cell 3; have e5 := bx.cell 4
              simp only [List.getElem?_toArray, List.getElem?_cons_zero, List.getElem?_cons_succ] at e0 e2 e3 e4 e5
              have hown := (H12.pick 2 rfl).own
              have k4 := ((Chg.refl [] z13).alloc (.cells #[.int .i64 kd, .int .i64 t_, .bool rw_, .bool ru, .bool rx] 45))
              have hown4 := hown.new k4
              have hsrc4 : Src (z13.alloc (.cells #[.int .i64 kd, .int .i64 t_, .bool rw_, .bool ru, .bool rx] 45)) sltE.k (some ⟨z13.heap.size, 0, none⟩) 1 1 (sltE.all [(⟨kd, t_, ⟨rw_, ru, rx⟩⟩ : Slt)]) := (OwnG.lit (E := sltE) (L := [(⟨kd, t_, ⟨rw_, ru, rx⟩⟩ : Slt)]) (Blk.new z13 45 #[.int .i64 kd, .int .i64 t_, .bool rw_, .bool ru, .bool rx]) (by simp)).src
              go_wp2_with (at_builtin; refine wpList_append_G (E := sltE) rfl _ _ 74 rfl 45 (.agg #[.int .i64 0, .int .i64 0, .bool false, .bool false, .bool false]) 24 Try.underlying74 Slot_info rfl (.slice Ak (K1 (8 * j + i)).length ck) (K1 (8 * j + i)) rfl hown4 (some ⟨z13.heap.size, 0, none⟩) 1 1 [(⟨kd, t_, ⟨rw_, ru, rx⟩⟩ : Slt)] rfl hsrc4 rfl (by have := hK1l (8 * j + i); omega) ?_; intro v5 w5 ho5 hc5 hb5; obtain ⟨A5, c5, rfl, _, _⟩ := ho5.form; rw [← e1.out] at ho5 hb5)
              have H16 := ((H12.pick 2 rfl).new k4).app ho5 hc5 hb5
              clear H12 bx e0 e2 e3 e4 e5 hown hown4 hsrc4 ho5 hc5 hb5 k4
              replace H16 : SepC w w5 (stT q hp hb 24 6 9 s :: ownT (numE .i64) 3 (.slice (some ⟨ab, aoff, none⟩) N7 c7) F7 :: ownT sltE 45 (.slice A5 (K1 (8 * j + i + 1)).length c5) (K1 (8 * j + i + 1)) :: blkT w.heap.size 24 #[.int .i64 kg, .int .i64 kl, .int .i64 kr] :: []) := (H16.pick 2 rfl).pick 2 rfl
              go_roundw
              case rel => exact ⟨i + 1, A5, c5, by omega, by go_num, by (rw [← Nat.add_assoc, e1.out, List.length_append]; rfl), H16⟩
              case measure => simp [intOf]; omega
            · obtain rfl : i = 8 := by omega
              have hiz : ¬ (8 : Int) < 8 := by omega
              go_wp2_with fail
              go_roundw
              case rel => exact ⟨j + 1, Ak, ck, by omega, by go_num, rfl, H10⟩
              case measure => simp [intOf]; omega
        · have hjN : j = N7 := by omega
          subst hjN
          have hjz : ¬ (j : Int) < (j : Int) := by omega
          have hKn := hK1n (8 * j) (Nat.le_refl _)
          obtain ⟨NW, hNW⟩ : ∃ NW, 8 * j = NW := ⟨_, rfl⟩
          rw [hNW] at H hKn hK1a
          obtain ⟨KW, hKW⟩ : ∃ KW, K1 NW = KW := ⟨_, rfl⟩
          rw [hKW] at H hKn hK1a
          rw [hKn] at H
          have cD := H.sDrop fp hprJ
          rw [hdj1] at cD
          obtain ⟨s1, hs1⟩ : ∃ s1, dropS s fp = s1 := ⟨_, rfl⟩
          rw [hs1] at cD hdj2 hdj3 hfd hmk
          clear hs1 hdj1
          have hdd := drop_drop hdj2
          have hgv : (Value.slice Ak (K1 (8 * j)).length ck) = .slice Ak NW ck := by rw [hNW, hKW, hKn]
          rw [hgv]
          clear hgv hKW hKn hK1n hK1s hK1l hK10
          replace hNW := Lib.hid hNW
          go_wp2_with fail
          refine (cD).mono ?_; rintro e z20 ⟨rfl, H20⟩
          clear cD H
          have cD := H20.sDrop fp hprJ
          rw [hdj2, hdd] at cD
          clear hdj2 hdd
          go_wp2_with fail
          refine (cD).mono ?_; rintro e z21 ⟨rfl, H21⟩
          clear cD H20
          have cP := H21.sParents fp
          rw [hdj3] at cP
          simp only [List.length_nil] at cP
          clear hdj3
          go_wp2_with fail
          refine (cP).mono ?_; rintro e z22 ⟨A22, c22, rfl, H22⟩
          replace H22 := H22.tail
          clear cP H21
          go_wp2_with fail
          go_loopw [18] (fun s18 wr => ∃ j2 : Nat, j2 ≤ j ∧ s18 = .int .i64 j2 ∧ SepC w wr (stT q hp hb 24 6 9 s1 :: ownT (numE .i64) 3 (.slice (some ⟨ab, aoff, none⟩) j c7) F7 :: ownT sltE 45 (.slice Ak NW ck) KW :: blkT w.heap.size 24 #[.int .i64 kg, .int .i64 kl, .int .i64 kr] :: [])) (fun s18 _ => j - (intOf s18).toNat)
          case atStart => exact ⟨0, Nat.zero_le _, rfl, H22⟩
          case round =>
            obtain ⟨j2, hj2, rfl, H⟩ := hrel
            clear H22
            by_cases hjl : j2 < j
            · have hjz : (j2 : Int) < (j : Int) := by omega
              obtain ⟨qj, hq0, hqm, hqa, hqk, hqr, hqF⟩ := hpl j2 hjl
              have hpr : -9223372036854775808 ≤ qj.f ∧ qj.f ≤ 9223372036854775807 := by omega
              have hacO : ∀ w', OwnG (numE .i64) w' 3 (.slice (some ⟨ab, aoff, none⟩) j c7) F7 → w'.cell? ⟨ab, aoff + j2, none⟩ = some (.int .i64 qj.f) := fun w' ho => by
                obtain ⟨b_, o_, x_, hb_, _, hx_, hc_⟩ := SlN.get ho.slg hjl
                cases hb_
                rw [hqF] at hx_; cases hx_
                exact hc_
              have hsq := fun i hi => hsl j2 i hi qj hq0
              have hKa := fun i x (hi : i < 8) (hx : qj.s[i]? = some x) => hK1a j2 i qj x hq0 hi hx
              clear hq0 hqk hqa hqm hqr hqF
              generalize qj.f = fj at *
              go_wp2_with fail
              go_loopw [19] (fun s19 wr => ∃ i : Nat, i ≤ 8 ∧ s19 = .int .i64 i ∧ SepC w wr (stT q hp hb 24 6 9 s1 :: ownT (numE .i64) 3 (.slice (some ⟨ab, aoff, none⟩) j c7) F7 :: ownT sltE 45 (.slice Ak NW ck) KW :: blkT w.heap.size 24 #[.int .i64 kg, .int .i64 kl, .int .i64 kr] :: [])) (fun s19 _ => 8 - (intOf s19).toNat)
              case atStart => exact ⟨0, by omega, rfl, H⟩
              case round =>
                obtain ⟨i, hi, rfl, H10⟩ := hrel
                clear H
                by_cases hi8 : i < 8
                · have hiz : (i : Int) < 8 := by omega
                  obtain ⟨x, hx0, hx1, hx2, _⟩ := hsq i hi8
                  have hka := hKa i x hi8 hx0
                  have hXl : 8 * j2 + i < NW := by have := hNW.out; omega
                  have hXz : 8 * (j2 : Int) + (i : Int) < (NW : Int) := by omega
                  have hac := hacO _ (H10.pick 1 rfl).own
                  have cS := H10.sSlot fj i hpr
                  have hfs := hfd fj i
                  rw [hx1, Option.map_some] at hfs
                  clear hx0 hx1 hx2
                  obtain ⟨kd, t_, ⟨rw_, ru, rx⟩⟩ := x
                  simp only at hfs
                  by_cases hfp : fj = fp
                  · rw [if_pos hfp] at hfs
                    rw [hfs] at cS
                    generalize slotV s1.L fj (i : Int) = y at *
                    obtain ⟨yk, yt, ⟨yw, yu, yx⟩⟩ := y
                    have hff : (fj == fp) = true := by simpa using hfp
                    clear hfs
                    replace hfp := Lib.hid hfp
                    simp only [Option.isSome_none, Slt.cl] at cS
                    go_wp2_with fail
                    refine (cS).mono ?_; rintro e z12 ⟨rfl, y12⟩
                    clear cS hac
                    have H12 := (H10.new y12).alloc #[.int .i64 yk, .int .i64 yt, .bool yw, .bool yu, .bool yx] 45
                    clear H10 y12
                    go_upto_region 34 with fail
                    generalize z12.alloc (.cells #[.int .i64 yk, .int .i64 yt, .bool yw, .bool yu, .bool yx] 45) = z13 at *
                    generalize z12.heap.size = sb at *
                    obtain ⟨b8, o8, x8, rfl, _, hx8_, hc8⟩ := SlG.get (H12.pick 3 rfl).own.slg hXl
                    rw [hka] at hx8_; cases hx8_
                    obtain ⟨d0, d1, d2, d3, d4⟩ := sltAt5 hc8
                    simp only [show sltE.k = 5 from rfl] at d0 d1 d2 d3 d4
                    clear hc8
                    go_upto_region 35 with fail
                    have H13 := H12.alloc #[.int .i64 kd, .int .i64 t_, .bool rw_, .bool ru, .bool rx] 45
                    clear H12 d0 d1 d2 d3 d4
                    generalize z13.alloc (.cells #[.int .i64 kd, .int .i64 t_, .bool rw_, .bool ru, .bool rx] 45) = z14 at *
                    generalize z13.heap.size = ob at *
                    have b1 := (H13.pick 0 rfl).blk; have b2 := (H13.pick 1 rfl).blk
                    have hac := hacO _ (H13.pick 3 rfl).own
                    have e0 := b1.cell 0; have e1 := b1.cell 1; have e2 := b1.cell 2; have e3 := b1.cell 3; have e4 := b1.cell 4
                    have f0 := b2.cell 0; have f1 := b2.cell 1; have f2 := b2.cell 2; have f3 := b2.cell 3; have f4 := b2.cell 4
                    simp only [List.getElem?_toArray, List.getElem?_cons_zero, List.getElem?_cons_succ] at e0 e1 e2 e3 e4 f0 f1 f2 f3 f4
                    replace H13 := H13.tail.tail
                    go_wp2_with fail
                    go_roundw
                    case rel => exact ⟨i + 1, by omega, by go_num, H13⟩
                    case measure => simp [intOf]; omega
                  · by_cases h1 : kd = 1
                    · by_cases h2 : t_ = fp
                      · rw [if_neg hfp, if_pos ⟨h1, h2⟩] at hfs
                        rw [slotV_at hfs, hfs] at cS
                        have hff : (fj == fp) = false := by simpa using hfp
                        have hk1 : (kd == 1) = true := by simpa using h1
                        have ht1 : (t_ == fp) = true := by simpa using h2
                        have hk2 : (kd != 1) = false := by simpa using h1
                        have ht2 : (t_ != fp) = false := by simpa using h2
                        have hns := run_neSl Slt.no Slt.no
                        rw [decide_eq_true (rfl : Slt.no = Slt.no)] at hns
                        simp only [Slt.cl, Slt.no, Bool.not_true] at hns
                        clear hfs
                        replace hfp := Lib.hid hfp
                        replace h1 := Lib.hid h1
                        replace h2 := Lib.hid h2
                        simp only [Option.isSome_some, Slt.cl, Slt.no] at cS
                        go_wp2_with fail
                        refine (cS).mono ?_; rintro e z12 ⟨rfl, y12⟩
                        clear cS hac
                        have H12 := (H10.new y12).alloc #[.int .i64 0, .int .i64 0, .bool false, .bool false, .bool false] 45
                        clear H10 y12
                        go_upto_region 34 with fail
                        generalize z12.alloc (.cells #[.int .i64 0, .int .i64 0, .bool false, .bool false, .bool false] 45) = z13 at *
                        generalize z12.heap.size = sb at *
                        obtain ⟨b8, o8, x8, rfl, _, hx8_, hc8⟩ := SlG.get (H12.pick 3 rfl).own.slg hXl
                        rw [hka] at hx8_; cases hx8_
                        obtain ⟨d0, d1, d2, d3, d4⟩ := sltAt5 hc8
                        simp only [show sltE.k = 5 from rfl] at d0 d1 d2 d3 d4
                        clear hc8
                        go_upto_region 35 with fail
                        have H13 := H12.alloc #[.int .i64 kd, .int .i64 t_, .bool rw_, .bool ru, .bool rx] 45
                        clear H12 d0 d1 d2 d3 d4
                        generalize z13.alloc (.cells #[.int .i64 kd, .int .i64 t_, .bool rw_, .bool ru, .bool rx] 45) = z14 at *
                        generalize z13.heap.size = ob at *
                        have b1 := (H13.pick 0 rfl).blk; have b2 := (H13.pick 1 rfl).blk
                        have hac := hacO _ (H13.pick 3 rfl).own
                        have e0 := b1.cell 0; have e1 := b1.cell 1; have e2 := b1.cell 2; have e3 := b1.cell 3; have e4 := b1.cell 4
                        have f0 := b2.cell 0; have f1 := b2.cell 1; have f2 := b2.cell 2; have f3 := b2.cell 3; have f4 := b2.cell 4
                        simp only [List.getElem?_toArray, List.getElem?_cons_zero, List.getElem?_cons_succ] at e0 e1 e2 e3 e4 f0 f1 f2 f3 f4
                        replace H13 := H13.tail.tail
                        go_wp2_with fail
                        go_roundw
                        case rel => exact ⟨i + 1, by omega, by go_num, H13⟩
                        case measure => simp [intOf]; omega
                      · rw [if_neg hfp, if_neg (fun h => h2 h.2)] at hfs
                        rw [slotV_at hfs, hfs] at cS
                        have hff : (fj == fp) = false := by simpa using hfp
                        have hk1 : (kd == 1) = true := by simpa using h1
                        have ht1 : (t_ == fp) = false := by simpa using h2
                        have hk2 : (kd != 1) = false := by simpa using h1
                        have ht2 : (t_ != fp) = true := by simpa using h2
                        have hns := run_neSl (⟨kd, t_, ⟨rw_, ru, rx⟩⟩ : Slt) (⟨kd, t_, ⟨rw_, ru, rx⟩⟩ : Slt)
                        rw [decide_eq_true (rfl : (⟨kd, t_, ⟨rw_, ru, rx⟩⟩ : Slt) = (⟨kd, t_, ⟨rw_, ru, rx⟩⟩ : Slt))] at hns
                        simp only [Slt.cl, Bool.not_true] at hns
                        clear hfs
                        replace hfp := Lib.hid hfp
                        replace h1 := Lib.hid h1
                        replace h2 := Lib.hid h2
                        simp only [Option.isSome_some, Slt.cl] at cS
                        go_wp2_with fail
                        refine (cS).mono ?_; rintro e z12 ⟨rfl, y12⟩
                        clear cS hac
                        have H12 := (H10.new y12).alloc #[.int .i64 kd, .int .i64 t_, .bool rw_, .bool ru, .bool rx] 45
                        clear H10 y12
                        go_upto_region 34 with fail
                        generalize z12.alloc (.cells #[.int .i64 kd, .int .i64 t_, .bool rw_, .bool ru, .bool rx] 45) = z13 at *
                        generalize z12.heap.size = sb at *
                        obtain ⟨b8, o8, x8, rfl, _, hx8_, hc8⟩ := SlG.get (H12.pick 3 rfl).own.slg hXl
                        rw [hka] at hx8_; cases hx8_
                        obtain ⟨d0, d1, d2, d3, d4⟩ := sltAt5 hc8
                        simp only [show sltE.k = 5 from rfl] at d0 d1 d2 d3 d4
                        clear hc8
                        go_upto_region 35 with fail
                        have H13 := H12.alloc #[.int .i64 kd, .int .i64 t_, .bool rw_, .bool ru, .bool rx] 45
                        clear H12 d0 d1 d2 d3 d4
                        generalize z13.alloc (.cells #[.int .i64 kd, .int .i64 t_, .bool rw_, .bool ru, .bool rx] 45) = z14 at *
                        generalize z13.heap.size = ob at *
                        have b1 := (H13.pick 0 rfl).blk; have b2 := (H13.pick 1 rfl).blk
                        have hac := hacO _ (H13.pick 3 rfl).own
                        have e0 := b1.cell 0; have e1 := b1.cell 1; have e2 := b1.cell 2; have e3 := b1.cell 3; have e4 := b1.cell 4
                        have f0 := b2.cell 0; have f1 := b2.cell 1; have f2 := b2.cell 2; have f3 := b2.cell 3; have f4 := b2.cell 4
                        simp only [List.getElem?_toArray, List.getElem?_cons_zero, List.getElem?_cons_succ] at e0 e1 e2 e3 e4 f0 f1 f2 f3 f4
                        replace H13 := H13.tail.tail
                        go_wp2_with fail
                        go_roundw
                        case rel => exact ⟨i + 1, by omega, by go_num, H13⟩
                        case measure => simp [intOf]; omega
                    · rw [if_neg hfp, if_neg (fun h => h1 h.1)] at hfs
                      rw [slotV_at hfs, hfs] at cS
                      have hff : (fj == fp) = false := by simpa using hfp
                      have hk1 : (kd == 1) = false := by simpa using h1
                      have hk2 : (kd != 1) = true := by simpa using h1
                      have hns := run_neSl (⟨kd, t_, ⟨rw_, ru, rx⟩⟩ : Slt) (⟨kd, t_, ⟨rw_, ru, rx⟩⟩ : Slt)
                      rw [decide_eq_true (rfl : (⟨kd, t_, ⟨rw_, ru, rx⟩⟩ : Slt) = (⟨kd, t_, ⟨rw_, ru, rx⟩⟩ : Slt))] at hns
                      simp only [Slt.cl, Bool.not_true] at hns
                      clear hfs
                      replace hfp := Lib.hid hfp
                      replace h1 := Lib.hid h1
                      simp only [Option.isSome_some, Slt.cl] at cS
                      go_wp2_with fail
                      refine (cS).mono ?_; rintro e z12 ⟨rfl, y12⟩
                      clear cS hac
                      have H12 := (H10.new y12).alloc #[.int .i64 kd, .int .i64 t_, .bool rw_, .bool ru, .bool rx] 45
                      clear H10 y12
                      go_upto_region 34 with fail
                      generalize z12.alloc (.cells #[.int .i64 kd, .int .i64 t_, .bool rw_, .bool ru, .bool rx] 45) = z13 at *
                      generalize z12.heap.size = sb at *
                      obtain ⟨b8, o8, x8, rfl, _, hx8_, hc8⟩ := SlG.get (H12.pick 3 rfl).own.slg hXl
                      rw [hka] at hx8_; cases hx8_
                      obtain ⟨d0, d1, d2, d3, d4⟩ := sltAt5 hc8
                      simp only [show sltE.k = 5 from rfl] at d0 d1 d2 d3 d4
                      clear hc8
                      go_upto_region 35 with fail
                      have H13 := H12.alloc #[.int .i64 kd, .int .i64 t_, .bool rw_, .bool ru, .bool rx] 45
                      clear H12 d0 d1 d2 d3 d4
                      generalize z13.alloc (.cells #[.int .i64 kd, .int .i64 t_, .bool rw_, .bool ru, .bool rx] 45) = z14 at *
                      generalize z13.heap.size = ob at *
                      have b1 := (H13.pick 0 rfl).blk; have b2 := (H13.pick 1 rfl).blk
                      have hac := hacO _ (H13.pick 3 rfl).own
                      have e0 := b1.cell 0; have e1 := b1.cell 1; have e2 := b1.cell 2; have e3 := b1.cell 3; have e4 := b1.cell 4
                      have f0 := b2.cell 0; have f1 := b2.cell 1; have f2 := b2.cell 2; have f3 := b2.cell 3; have f4 := b2.cell 4
                      simp only [List.getElem?_toArray, List.getElem?_cons_zero, List.getElem?_cons_succ] at e0 e1 e2 e3 e4 f0 f1 f2 f3 f4
                      replace H13 := H13.tail.tail
                      go_wp2_with fail
                      go_roundw
                      case rel => exact ⟨i + 1, by omega, by go_num, H13⟩
                      case measure => simp [intOf]; omega
                · obtain rfl : i = 8 := by omega
                  have hiz : ¬ (8 : Int) < 8 := by omega
                  go_wp2_with fail
                  go_roundw
                  case rel => exact ⟨j2 + 1, by omega, by go_num, H10⟩
                  case measure => simp [intOf]; omega
            · obtain rfl : j2 = j := by omega
              have hjz : ¬ (j2 : Int) < (j2 : Int) := by omega
              have bk := (H.pick 3 rfl).blk
              have x0 := bk.cell 0; have x1 := bk.cell 1; have x2 := bk.cell 2
              simp only [List.getElem?_toArray, List.getElem?_cons_zero, List.getElem?_cons_succ] at x0 x1 x2
              have cM := H.sMake ⟨kg, kl, kr⟩
              have hmk2 := hmk ⟨kg, kl, kr⟩
              simp only [Ky.cs] at cM
              generalize makeV s1 ⟨kg, kl, kr⟩ = mv at *
              generalize makeS 24 s1 ⟨kg, kl, kr⟩ = s2 at *
              cases hB : makeB s1 ⟨kg, kl, kr⟩ with
              | true =>
                have hmv := hmk2 hB
                rw [hB] at cM
                subst hmv
                go_wp2_with fail
                refine (cM).mono ?_; rintro e z30 ⟨rfl, H30⟩
                go_wp2_with fail
                go_ret
                exact ⟨rfl, H30.1⟩
              | false =>
                rw [hB] at cM
                go_wp2_with fail
                refine (cM).mono ?_; rintro e z30 ⟨rfl, H30⟩
                go_wp2_with fail
                go_ret
                exact ⟨rfl, H30.1⟩

theorem StoreDrops_walk (A : Option Addr) (n c : Nat) (L : List Ost) (at_ : Int) (k0 : Ky) (w : World) (hl : OpsIn w A n L) (hat_ : 0 ≤ at_ ∧ at_ ≤ 255) :
    Calls Try.prog 7 #[.slice A n c, .int .u8 at_, .agg k0.cs] w fun e w' => e = .returned (.bool true) ∧ Chg [] w w' := by
  obtain ⟨k, rfl⟩ := Int.eq_ofNat_of_zero_le hat_.1
  exact lawStoreDrops_any A n c L k k0 w (by omega) hl

end Go.Proofs.Ytpmfooeifhhfkaa
