/-
  StoreLinks: the law, walked from contracts.
-/
import Derived.Test.YtpmfooeifhhfkaaStoreT
import Derived.Deep.CutRange
namespace Go.Proofs.Ytpmfooeifhhfkaa
open Go.RowKit Go.Maps

set_option maxRecDepth 100000 in
set_option maxHeartbeats 20000000 in
/-- Parents and Leaves are just the slots that tell it, in order; a child is a page of the next lower level -/
theorem lawStoreLinks_any (A : Option Addr) (n c : Nat) (L : List Ost) (to_ : Int) (w : World) (hl : OpsIn w A n L) :
    Calls Try.prog 5 #[.slice A n c, .int .i64 to_] w fun e w' => e = .returned (.bool true) ∧ Chg [] w w' := by
  have hNew := fun w' => New_at 24 w' (by omega) (by omega)
  have hHd := fun w' => SThead_any w'
  have hn9 := hl.sl.le
  have hnn := hl.sl.len
  replace hnn := Lib.hid hnn
  have H0 := SepC.nil w
  by_cases h200 : (200 : Int) < n
  · have hgt : decide ((n : Int) > 200) = true := by simpa using h200
    go_enter Try.func5, Try.ntmps5
    go_wp2_with fail
    refine (hHd _).mono ?_; rintro e z1 ⟨rfl, y1⟩
    have H1 := H0.new y1
    clear H0 y1 hHd
    go_wp2_with fail
    refine (hNew _).mono ?_; rintro e z2 ⟨hp, hb, rfl, y2, hm, hg1, hg2⟩
    have H2 := H1.new y2
    clear hm hg1 hg2 H1 hNew
    go_wp2_with fail
    go_ret
    exact ⟨rfl, H2.1⟩
  have hgt : decide ((n : Int) > 200) = false := by simpa using h200
  go_enter Try.func5, Try.ntmps5
  go_wp2_with fail
  refine (hHd _).mono ?_; rintro e z1 ⟨rfl, y1⟩
  have H1 := H0.new y1
  clear H0 y1 hHd
  go_wp2_with fail
  refine (hNew _).mono ?_; rintro e z2 ⟨hp, hb, rfl, y2, hm, hg1, hg2⟩
  have H2 := H1.lay (P := hoT hp hb 24 (zeros 192)) (S := [hb, hp]) y2 ⟨rfl, hm⟩ (by intro i hi; simp only [List.mem_cons, List.not_mem_nil, or_false] at hi; rcases hi with rfl | rfl <;> assumption)
  clear hm hg1 hg2 H1 hNew
  have hn200 : n ≤ 200 := by omega
  change SepC w z2 (hoT hp hb 24 (zeros 192) :: []) at H2
  go_wp2_with fail
  refine (H2.sNew (a := 6) (m := 9) (by omega)).mono ?_; rintro e z3 ⟨q, rfl, H3⟩
  change SepC w z3 (stT q hp hb 24 6 9 (st0 9) :: _) at H3
  clear H2
  go_wp2_with fail
  go_loopw [8] (fun s_ wr => ∃ k : Nat, k ≤ n ∧ s_ = .int .i64 k ∧ SepC w wr (stT q hp hb 24 6 9 (runP 24 (st0 9) (L.take k)) :: [])) (fun s_ _ => n - (intOf s_).toNat)
  case atStart => exact ⟨0, Nat.zero_le _, rfl, by simpa [runP] using H3⟩
  case round =>
    obtain ⟨k, hk, rfl, H⟩ := hrel
    clear H3
    by_cases hlt : k < n
    · have hltz : (k : Int) < (n : Int) := by omega
      obtain ⟨b, off, o, rfl, ho, c0, c1, c2, c3, c4, c5, c6, c7, c8, c9, c10⟩ := opE_cells (hl.new H.1).sl hlt
      have hP := H.sPlay o (hl.at_ ho)
      rw [← runP_take ho] at hP
      simp only [Ost.cs] at hP
      clear H
      go_wp2_with fail
      refine hP.mono ?_; rintro e w2 ⟨rfl, H2⟩
      clear hP c0 c1 c2 c3 c4 c5 c6 c7 c8 c9 c10
      go_wp2_with fail
      go_roundw
      case rel => exact ⟨k + 1, by omega, by go_num, H2⟩
      case measure => simp [intOf]; omega
    · obtain rfl : k = n := by omega
      have hltz : ¬ (k : Int) < (k : Int) := by omega
      rw [List.take_of_length_le (Nat.le_of_eq hnn.out)] at H
      obtain ⟨s, hs⟩ : ∃ s, runP 24 (st0 9) L = s := ⟨_, rfl⟩
      rw [hs] at H
      have hok := H.sok; have hto : ToOk s.L := by have := ToOk.run (n := 24) L (st0_to 9) hl.wf; rwa [hs] at this
      clear hs hltz
      have hN := hok.le256
      obtain ⟨K1, hK10, hK1e, hK1l, hK1s⟩ := hok.lnkN 1 to_
      obtain ⟨K2, hK20, hK2e, hK2l, hK2s⟩ := hok.lnkN 2 to_
      have hpl := fun j (hj : j < s.L.length) => hok.place hj
      have hsl := fun j i (hi : i < 8) q_ (hq : s.L[j]? = some q_) => hok.slotAt (j := j) hi hq
      have hkd := hok.kinds; have hrg := hok.right
      have cA := H.sAll
      have hP1 : (toldP 1 to_ s.L).length ≤ 2048 := by rw [← hK1e]; exact hK1l _
      have hP2 : (toldP 2 to_ s.L).length ≤ 2048 := by rw [← hK2e]; exact hK2l _
      rw [List.length_map] at cA
      obtain ⟨F7, hF7⟩ : ∃ F7, s.L.map Pg.f = F7 := ⟨_, rfl⟩
      rw [hF7] at cA
      rw [hF7] at hpl
      clear hF7
      obtain ⟨N7, hN7⟩ : ∃ N7, s.L.length = N7 := ⟨_, rfl⟩
      rw [hN7] at cA hpl hN hK1e hK2e
      clear hN7
      replace hK1e := Lib.hid hK1e; replace hK2e := Lib.hid hK2e; replace hK10 := Lib.hid hK10; replace hK20 := Lib.hid hK20
      go_wp2_with fail
      refine (cA).mono ?_; rintro e z7 ⟨A7, c7, rfl, H7⟩
      have H8 := H7.swap
      clear H H7 cA
      have H9 := ((H8.ownNil atE 70).ownNil atE 70)
      replace H9 : SepC w z7 (stT q hp hb 24 6 9 s :: ownT (numE .i64) 3 (.slice A7 N7 c7) F7 :: ownT atE 70 (.slice none 0 0) [] :: ownT atE 70 (.slice none 0 0) [] :: []) := (H9.pick 3 rfl).pick 3 rfl
      clear H8
      go_wp2_with fail
      go_loopw [10, 11, 12] (fun s10 s11 s12 wr => ∃ (j : Nat) (Ak : Option Addr) (ck : Nat) (Al : Option Addr) (cl : Nat), j ≤ N7 ∧ s12 = .int .i64 j ∧ s10 = .slice Ak (K1 (8 * j)).length ck ∧ s11 = .slice Al (K2 (8 * j)).length cl ∧ SepC w wr (stT q hp hb 24 6 9 s :: ownT (numE .i64) 3 (.slice A7 N7 c7) F7 :: ownT atE 70 (.slice Ak (K1 (8 * j)).length ck) (K1 (8 * j)) :: ownT atE 70 (.slice Al (K2 (8 * j)).length cl) (K2 (8 * j)) :: [])) (fun _ _ s12 _ => N7 - (intOf s12).toNat)
      case atStart => exact ⟨0, none, 0, none, 0, Nat.zero_le _, rfl, by rw [Nat.mul_zero, hK10.out]; rfl, by rw [Nat.mul_zero, hK20.out]; rfl, by rw [Nat.mul_zero, hK10.out, hK20.out]; exact H9⟩
      case round =>
        obtain ⟨j, Ak, ck, Al, cl, hj, rfl, rfl, rfl, H⟩ := hrel
        clear H9
        by_cases hjl : j < N7
        · have hjz : (j : Int) < (N7 : Int) := by omega
          obtain ⟨qj, hq0, hqm, hqa, hqk, hqr, hqF⟩ := hpl j hjl
          obtain ⟨ab, aoff, ax, rfl, _, hax, hac⟩ := SlN.get (H.pick 1 rfl).own.slg hjl
          rw [hqF] at hax; cases hax
          have hpr : -9223372036854775808 ≤ qj.f ∧ qj.f ≤ 9223372036854775807 := by omega
          have cK := H.sKey qj.f hpr
          rw [hqa, hqk] at cK
          simp only [Option.isSome_some, Ky.cs] at cK
          have hlv : 1 ≤ qj.k.lev ∧ qj.k.lev ≤ 3 := by have := hrg qj hqm; unfold Ky.right at this; rw [decide_eq_true_eq] at this; omega
          have hkq := hkd qj hqm
          have hsq := fun i hi => hsl j i hi qj hq0
          have hS1 := fun i x (hi : i < 8) (hx : qj.s[i]? = some x) => hK1s j i qj x hq0 hi hx
          have hS2 := fun i x (hi : i < 8) (hx : qj.s[i]? = some x) => hK2s j i qj x hq0 hi hx
          have htq := fun x (hx : x ∈ qj.s) => hto qj hqm x hx
          clear hq0 hqk
          generalize hqf : qj.f = fj at *
          replace hqf := Lib.hid hqf
          generalize hqk : qj.k = kj at *
          replace hqk := Lib.hid hqk
          obtain ⟨kg, kl, kr⟩ := kj
          simp only at cK hlv hkq
          go_wp2_with fail
          refine (cK).mono ?_; rintro e z10 ⟨rfl, y10⟩
          clear cK hac
          have H10 := (H.new y10).alloc #[.int .i64 kg, .int .i64 kl, .int .i64 kr] 24
          clear H y10
          go_wp2_with fail
          generalize z10.alloc (.cells #[.int .i64 kg, .int .i64 kl, .int .i64 kr] 24) = z11 at *
          generalize z10.heap.size = kb at *
          replace H10 : SepC w z11 (stT q hp hb 24 6 9 s :: ownT (numE .i64) 3 (.slice (some ⟨ab, aoff, none⟩) N7 c7) F7 :: ownT atE 70 (.slice Ak (K1 (8 * j)).length ck) (K1 (8 * j)) :: ownT atE 70 (.slice Al (K2 (8 * j)).length cl) (K2 (8 * j)) :: blkT kb 24 #[.int .i64 kg, .int .i64 kl, .int .i64 kr] :: []) := ((((H10.pick 4 rfl).pick 4 rfl).pick 4 rfl).pick 4 rfl)
          have hacO : ∀ w', OwnG (numE .i64) w' 3 (.slice (some ⟨ab, aoff, none⟩) N7 c7) F7 → w'.cell? ⟨ab, aoff + j, none⟩ = some (.int .i64 fj) := fun w' ho => by
            obtain ⟨b_, o_, x_, hb_, _, hx_, hc_⟩ := SlN.get ho.slg hjl
            cases hb_
            rw [hqF] at hx_; cases hx_
            exact hc_
          go_loopw [10, 11, 15] (fun s10 s11 s15 wr => ∃ (i : Nat) (Ak : Option Addr) (ck : Nat) (Al : Option Addr) (cl : Nat), i ≤ 8 ∧ s15 = .int .i64 i ∧ s10 = .slice Ak (K1 (8 * j + i)).length ck ∧ s11 = .slice Al (K2 (8 * j + i)).length cl ∧ SepC w wr (stT q hp hb 24 6 9 s :: ownT (numE .i64) 3 (.slice (some ⟨ab, aoff, none⟩) N7 c7) F7 :: ownT atE 70 (.slice Ak (K1 (8 * j + i)).length ck) (K1 (8 * j + i)) :: ownT atE 70 (.slice Al (K2 (8 * j + i)).length cl) (K2 (8 * j + i)) :: blkT kb 24 #[.int .i64 kg, .int .i64 kl, .int .i64 kr] :: [])) (fun _ _ s15 _ => 8 - (intOf s15).toNat)
          case atStart => exact ⟨0, Ak, ck, Al, cl, by omega, rfl, rfl, rfl, H10⟩
          case round =>
            obtain ⟨i, Ak, ck, Al, cl, hi, rfl, rfl, rfl, H⟩ := hrel
            clear H10
            by_cases hi8 : i < 8
            · have hiz : (i : Int) < 8 := by omega
              obtain ⟨x, hx0, hx1, hx2, _⟩ := hsq i hi8
              have e1 := hS1 i x hi8 hx0; have e2 := hS2 i x hi8 hx0
              have hxk := hkq x hx2
              have hxt := htq x hx2
              have hac := hacO _ (H.pick 1 rfl).own
              have cS := H.sSlot fj i hpr
              rw [slotV_at hx1, hx1] at cS
              obtain ⟨kd, t_, ⟨rw_, ru, rx⟩⟩ := x
              simp only [Option.isSome_some, Slt.cl] at cS
              simp only at hxk hxt e1 e2
              clear hx0 hx1 hx2
              go_wp2_with fail
              refine (cS).mono ?_; rintro e z12 ⟨rfl, y12⟩
              clear cS hac
              have H12 := (H.new y12).alloc #[.int .i64 kd, .int .i64 t_, .bool rw_, .bool ru, .bool rx] 45
              clear H y12
              have bx := H12.blk
              have x0 := bx.cell 0; have x1 := bx.cell 1
              simp only [List.getElem?_toArray, List.getElem?_cons_zero, List.getElem?_cons_succ] at x0 x1
              replace H12 : SepC w (z12.alloc (.cells #[.int .i64 kd, .int .i64 t_, .bool rw_, .bool ru, .bool rx] 45)) (stT q hp hb 24 6 9 s :: ownT (numE .i64) 3 (.slice (some ⟨ab, aoff, none⟩) N7 c7) F7 :: ownT atE 70 (.slice Ak (K1 (8 * j + i)).length ck) (K1 (8 * j + i)) :: ownT atE 70 (.slice Al (K2 (8 * j + i)).length cl) (K2 (8 * j + i)) :: blkT kb 24 #[.int .i64 kg, .int .i64 kl, .int .i64 kr] :: blkT z12.heap.size 45 #[.int .i64 kd, .int .i64 t_, .bool rw_, .bool ru, .bool rx] :: []) := (((((H12.pick 5 rfl).pick 5 rfl).pick 5 rfl).pick 5 rfl).pick 5 rfl)
              have cK := H12.sKey t_ hxt
              have hxk2 : (kd ≠ 1 ∧ kd ≠ 2) ∨ (kd = 1 ∧ (pgAt s.L t_).isSome = true ∧ (keyV s.L t_).lev = kl - 1) ∨ (kd = 2 ∧ kl = 1) := by
                rcases hxk with ⟨h, _⟩ | ⟨h, c_, hc1, hc2⟩ | ⟨h1, h2⟩
                · exact .inl (by omega)
                · exact .inr (.inl ⟨h, by rw [hc1]; rfl, by rw [keyV_at hc1]; exact hc2⟩)
                · exact .inr (.inr ⟨h1, h2⟩)
              clear hxk
              generalize keyV s.L t_ = kt at *
              generalize (pgAt s.L t_).isSome = it at *
              obtain ⟨tg, tl, tr⟩ := kt
              simp only [Ky.cs] at cK hxk2
              go_wp2_with fail
              refine (cK).mono ?_; rintro e z14 ⟨rfl, y14⟩
              generalize z12.alloc (.cells #[.int .i64 kd, .int .i64 t_, .bool rw_, .bool ru, .bool rx] 45) = z13 at *
              generalize z12.heap.size = sb at *
              clear cK bx x0 x1
              have H14 := (H12.new y14).alloc #[.int .i64 tg, .int .i64 tl, .int .i64 tr] 24
              clear H12 y14
              have bt := H14.blk
              have t1 := bt.cell 1
              have bs := (H14.pick 6 rfl).blk
              have bk := (H14.pick 5 rfl).blk
              have x0 := bs.cell 0; have x1 := bs.cell 1; have k1 := bk.cell 1
              simp only [List.getElem?_toArray, List.getElem?_cons_zero, List.getElem?_cons_succ] at t1 x0 x1 k1
              replace H14 := H14.tail
              have H15 : SepC w (z14.alloc (.cells #[.int .i64 tg, .int .i64 tl, .int .i64 tr] 24)) (stT q hp hb 24 6 9 s :: ownT (numE .i64) 3 (.slice (some ⟨ab, aoff, none⟩) N7 c7) F7 :: ownT atE 70 (.slice Ak (K1 (8 * j + i)).length ck) (K1 (8 * j + i)) :: ownT atE 70 (.slice Al (K2 (8 * j + i)).length cl) (K2 (8 * j + i)) :: blkT kb 24 #[.int .i64 kg, .int .i64 kl, .int .i64 kr] :: []) := ((((((H14.pick 5 rfl).tail).pick 4 rfl).pick 4 rfl).pick 4 rfl).pick 4 rfl).pick 4 rfl
              clear bt bs bk
              have hwl : wrap64 (kl - 1) = kl - 1 := by unfold wrap64; omega
              rcases hxk2 with ⟨hn1, hn2⟩ | ⟨rfl, rfl, rfl⟩ | ⟨rfl, rfl⟩
              · have b1 : (kd == 1) = false := by simpa using hn1
                have b2 : (kd == 2) = false := by simpa using hn2
                replace e1 : K1 (8 * j + i + 1) = K1 (8 * j + i) := by rw [e1, if_neg (by omega), List.append_nil]
                replace e2 : K2 (8 * j + i + 1) = K2 (8 * j + i) := by rw [e2, if_neg (by omega), List.append_nil]
                replace e1 := Lib.hid e1; replace e2 := Lib.hid e2
                go_wp2_with fail
                go_roundw
                case rel => exact ⟨i + 1, Ak, ck, Al, cl, by omega, by go_num, by rw [← Nat.add_assoc, e1.out], by rw [← Nat.add_assoc, e2.out], by rw [← Nat.add_assoc, e1.out, e2.out]; exact H15⟩
                case measure => simp [intOf]; omega
              · have htl2 : (kl - 1 != kl - 1) = false := by simp
                by_cases htt : t_ = to_
                · have htt2 : (t_ == to_) = true := by simpa using htt
                  replace e1 : K1 (8 * j + i + 1) = K1 (8 * j + i) ++ [(fj, (i : Int))] := by rw [e1, if_pos ⟨rfl, htt⟩]
                  replace e2 : K2 (8 * j + i + 1) = K2 (8 * j + i) := by rw [e2, if_neg (by omega), List.append_nil]
                  replace e1 := Lib.hid e1; replace e2 := Lib.hid e2; replace htt := Lib.hid htt
                  go_upto_region 27 with fail
                  generalize z14.alloc (.cells #[.int .i64 tg, .int .i64 (kl - 1), .int .i64 tr] 24) = z15 at *
                  generalize z14.heap.size = tb at *
                  have hown := (H15.pick 2 rfl).own
                  have hall := (H15.pick 1 rfl).own
                  have hap : ∀ g ∈ (Value.slice (some ⟨ab, aoff, none⟩) N7 c7).ownBlock.toList, g ∉ (Value.slice Ak (K1 (8 * j + i)).length ck).ownBlock.toList := fun g hg hm => by
                    obtain ⟨_, h1⟩ := own_cells hall _ hg; obtain ⟨_, h2⟩ := own_cells hown _ hm; exact Blk.type_ne h1 h2 (by decide) rfl
                  have hld : ∀ w', Chg (Value.slice Ak (K1 (8 * j + i)).length ck).ownBlock.toList z15 w' → w'.cell? ⟨ab, aoff + j, none⟩ = some (.int .i64 fj) := fun w' hc => hacO w' (hall.chg hc hap)
                  have d0 := hld z15 (Chg.refl _ _)
                  have k4 := ((Chg.refl [] z15).alloc (.cells #[.int .i64 fj, .int .i64 i] 70))
                  have hown4 := hown.new k4
                  have hsrc4 : Src (z15.alloc (.cells #[.int .i64 fj, .int .i64 i] 70)) atE.k (some ⟨z15.heap.size, 0, none⟩) 1 1 (atE.all [(fj, (i : Int))]) := (OwnG.lit (E := atE) (L := [(fj, (i : Int))]) (Blk.new z15 70 #[.int .i64 fj, .int .i64 i]) (by simp)).src
                  go_wp2_with (at_builtin; refine wpList_append_G (E := atE) rfl _ _ 54 rfl 70 (.agg #[.int .i64 0, .int .i64 0]) 16 Try.underlying54 At_info rfl (Value.slice Ak (K1 (8 * j + i)).length ck) (K1 (8 * j + i)) rfl hown4 (some ⟨z15.heap.size, 0, none⟩) 1 1 [(fj, (i : Int))] rfl hsrc4 rfl (by have := hK1l (8 * j + i); omega) ?_; intro v5 w5 ho5 hc5 hb5; obtain ⟨A5, c5, rfl, _, _⟩ := ho5.form; rw [← e1.out] at ho5 hb5; have H16 := ((H14.pick 2 rfl).new k4).app ho5 hc5 hb5; have bs5 := (H16.pick 5 rfl).blk; have x5 := bs5.cell 0; simp only [List.getElem?_toArray, List.getElem?_cons_zero] at x5)
                  replace H16 := (H16.pick 5 rfl).tail
                  clear H14 bs5 x5
                  clear H15 hown hall hap hld hown4 hsrc4 ho5 hc5 hb5 k4 d0
                  rw [← e2.out] at H16
                  replace H16 : SepC w w5 (stT q hp hb 24 6 9 s :: ownT (numE .i64) 3 (.slice (some ⟨ab, aoff, none⟩) N7 c7) F7 :: ownT atE 70 (.slice A5 (K1 (8 * j + i + 1)).length c5) (K1 (8 * j + i + 1)) :: ownT atE 70 (.slice Al (K2 (8 * j + i + 1)).length cl) (K2 (8 * j + i + 1)) :: blkT kb 24 #[.int .i64 kg, .int .i64 kl, .int .i64 kr] :: []) := (H16.pick 2 rfl).pick 2 rfl
                  go_roundw
                  case rel => exact ⟨i + 1, A5, c5, Al, cl, by omega, by go_num, by first | rfl | (rw [← Nat.add_assoc, e1.out]; first | done | rfl | (rw [List.length_append]; rfl)), by first | rfl | (rw [← Nat.add_assoc, e2.out]; first | done | rfl | (rw [List.length_append]; rfl)), H16⟩
                  case measure => simp [intOf]; omega
                · have htt2 : (t_ == to_) = false := by simpa using htt
                  replace e1 : K1 (8 * j + i + 1) = K1 (8 * j + i) := by rw [e1, if_neg (fun h => htt h.2), List.append_nil]
                  replace e2 : K2 (8 * j + i + 1) = K2 (8 * j + i) := by rw [e2, if_neg (fun h => htt h.2), List.append_nil]
                  replace e1 := Lib.hid e1; replace e2 := Lib.hid e2; replace htt := Lib.hid htt
                  go_wp2_with fail
                  go_roundw
                  case rel => exact ⟨i + 1, Ak, ck, Al, cl, by omega, by go_num, by rw [← Nat.add_assoc, e1.out], by rw [← Nat.add_assoc, e2.out], by rw [← Nat.add_assoc, e1.out, e2.out]; exact H15⟩
                  case measure => simp [intOf]; omega
              · by_cases htt : t_ = to_
                · have htt2 : (t_ == to_) = true := by simpa using htt
                  replace e2 : K2 (8 * j + i + 1) = K2 (8 * j + i) ++ [(fj, (i : Int))] := by rw [e2, if_pos ⟨rfl, htt⟩]
                  replace e1 : K1 (8 * j + i + 1) = K1 (8 * j + i) := by rw [e1, if_neg (by omega), List.append_nil]
                  replace e1 := Lib.hid e1; replace e2 := Lib.hid e2; replace htt := Lib.hid htt
                  go_upto_region 29 with fail
                  generalize z14.alloc (.cells #[.int .i64 tg, .int .i64 tl, .int .i64 tr] 24) = z15 at *
                  generalize z14.heap.size = tb at *
                  have hown := (H15.pick 3 rfl).own
                  have hall := (H15.pick 1 rfl).own
                  have hap : ∀ g ∈ (Value.slice (some ⟨ab, aoff, none⟩) N7 c7).ownBlock.toList, g ∉ (Value.slice Al (K2 (8 * j + i)).length cl).ownBlock.toList := fun g hg hm => by
                    obtain ⟨_, h1⟩ := own_cells hall _ hg; obtain ⟨_, h2⟩ := own_cells hown _ hm; exact Blk.type_ne h1 h2 (by decide) rfl
                  have hld : ∀ w', Chg (Value.slice Al (K2 (8 * j + i)).length cl).ownBlock.toList z15 w' → w'.cell? ⟨ab, aoff + j, none⟩ = some (.int .i64 fj) := fun w' hc => hacO w' (hall.chg hc hap)
                  have d0 := hld z15 (Chg.refl _ _)
                  have k4 := ((Chg.refl [] z15).alloc (.cells #[.int .i64 fj, .int .i64 i] 70))
                  have hown4 := hown.new k4
                  have hsrc4 : Src (z15.alloc (.cells #[.int .i64 fj, .int .i64 i] 70)) atE.k (some ⟨z15.heap.size, 0, none⟩) 1 1 (atE.all [(fj, (i : Int))]) := (OwnG.lit (E := atE) (L := [(fj, (i : Int))]) (Blk.new z15 70 #[.int .i64 fj, .int .i64 i]) (by simp)).src
                  go_wp2_with (at_builtin; refine wpList_append_G (E := atE) rfl _ _ 54 rfl 70 (.agg #[.int .i64 0, .int .i64 0]) 16 Try.underlying54 At_info rfl (Value.slice Al (K2 (8 * j + i)).length cl) (K2 (8 * j + i)) rfl hown4 (some ⟨z15.heap.size, 0, none⟩) 1 1 [(fj, (i : Int))] rfl hsrc4 rfl (by have := hK2l (8 * j + i); omega) ?_; intro v5 w5 ho5 hc5 hb5; obtain ⟨A5, c5, rfl, _, _⟩ := ho5.form; rw [← e2.out] at ho5 hb5; have H16 := ((H15.pick 3 rfl).new k4).app ho5 hc5 hb5)
                  clear H15 hown hall hap hld hown4 hsrc4 ho5 hc5 hb5 k4 d0
                  rw [← e1.out] at H16
                  replace H16 : SepC w w5 (stT q hp hb 24 6 9 s :: ownT (numE .i64) 3 (.slice (some ⟨ab, aoff, none⟩) N7 c7) F7 :: ownT atE 70 (.slice Ak (K1 (8 * j + i + 1)).length ck) (K1 (8 * j + i + 1)) :: ownT atE 70 (.slice A5 (K2 (8 * j + i + 1)).length c5) (K2 (8 * j + i + 1)) :: blkT kb 24 #[.int .i64 kg, .int .i64 1, .int .i64 kr] :: []) := ((H16.pick 3 rfl).pick 3 rfl).pick 3 rfl
                  go_roundw
                  case rel => exact ⟨i + 1, Ak, ck, A5, c5, by omega, by go_num, by first | rfl | (rw [← Nat.add_assoc, e1.out]; first | done | rfl | (rw [List.length_append]; rfl)), by first | rfl | (rw [← Nat.add_assoc, e2.out]; first | done | rfl | (rw [List.length_append]; rfl)), H16⟩
                  case measure => simp [intOf]; omega
                · have htt2 : (t_ == to_) = false := by simpa using htt
                  replace e1 : K1 (8 * j + i + 1) = K1 (8 * j + i) := by rw [e1, if_neg (fun h => htt h.2), List.append_nil]
                  replace e2 : K2 (8 * j + i + 1) = K2 (8 * j + i) := by rw [e2, if_neg (fun h => htt h.2), List.append_nil]
                  replace e1 := Lib.hid e1; replace e2 := Lib.hid e2; replace htt := Lib.hid htt
                  go_wp2_with fail
                  go_roundw
                  case rel => exact ⟨i + 1, Ak, ck, Al, cl, by omega, by go_num, by rw [← Nat.add_assoc, e1.out], by rw [← Nat.add_assoc, e2.out], by rw [← Nat.add_assoc, e1.out, e2.out]; exact H15⟩
                  case measure => simp [intOf]; omega
            · obtain rfl : i = 8 := by omega
              have hiz : ¬ (8 : Int) < 8 := by omega
              replace H := ((H.pick 4 rfl).tail)
              go_wp2_with fail
              go_roundw
              case rel => exact ⟨j + 1, Ak, ck, Al, cl, by omega, by go_num, rfl, rfl, H⟩
              case measure => simp [intOf]; omega
        · obtain rfl : j = N7 := by omega
          have hjz : ¬ (j : Int) < (j : Int) := by omega
          have cP := H.sParents to_
          go_wp2_with fail
          refine (cP).mono ?_; rintro e z20 ⟨A20, c20, rfl, H20⟩
          clear cP
          have cS1 := SameA_is A20 _ c20 (toldP 1 to_ s.L) Ak _ ck (K1 (8 * j)) true z20 (H20.pick 0 rfl).own.slg (H20.pick 3 rfl).own.slg (by rw [hK1e.out]; simp)
          go_wp2_with fail
          refine (cS1).mono ?_; rintro e z21 ⟨rfl, y21⟩
          have H21 := H20.tail.new y21
          clear H20 cS1 H
          have cL := H21.sLeaves to_
          go_wp2_with fail
          refine (cL).mono ?_; rintro e z22 ⟨A22, c22, rfl, H22⟩
          clear cL
          have cS2 := SameA_is A22 _ c22 (toldP 2 to_ s.L) Al _ cl (K2 (8 * j)) true z22 (H22.pick 0 rfl).own.slg (H22.pick 4 rfl).own.slg (by rw [hK2e.out]; simp)
          go_wp2_with fail
          refine (cS2).mono ?_; rintro e z23 ⟨rfl, y23⟩
          have H23 := H22.new y23
          go_wp2_with fail
          go_ret
          exact ⟨rfl, H23.1⟩

end Go.Proofs.Ytpmfooeifhhfkaa
