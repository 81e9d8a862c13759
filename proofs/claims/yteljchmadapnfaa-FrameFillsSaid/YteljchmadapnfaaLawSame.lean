/-
  FrameSame: the walk.
-/
import Derived.Test.YteljchmadapnfaaLawOwn
import Derived.Test.YteljchmadapnfaaLawWords
namespace Go.Proofs.Yteljchmadapnfaa
open Go.RowKit

theorem frameOf_setAll_ne {L xs : List Int} {n f j : Nat} (hl : L.length = 8 * n) (hx : xs.length = 8) (hf : f < n) (hj : j < n) (hne : j ≠ f) : frameOf (setAll L (f * 8) xs) j = frameOf L j := by
  apply List.ext_getElem?
  intro i
  by_cases hi : i < 8
  · rw [frameOf_get i hi, frameOf_get i hi, setAll_get _ _ _ _ (by omega), if_neg (by omega)]
  · rw [List.getElem?_eq_none (by rw [frameOf_len (by rw [setAll_len]; exact hl) hj]; omega), List.getElem?_eq_none (by rw [frameOf_len hl hj]; omega)]

theorem eqL_set (L : List Int) (i : Nat) (v : Int) (hi : i < L.length) : eqL L (L.set i v) = decide (L.getD i 0 = v) := by
  have hg : L.getD i 0 = L[i] := by simp [List.getD_eq_getElem?_getD, List.getElem?_eq_getElem hi]
  unfold eqL
  apply decide_eq_decide.2
  constructor
  · intro h
    have := congrArg (fun l : List Int => l[i]?) h
    simp only [List.getElem?_set, List.getElem?_eq_getElem hi, if_true, if_pos hi] at this
    rw [hg]; injection this
  · intro h
    rw [hg] at h
    rw [← h, List.set_getElem_self]
theorem eqL_comm (L M : List Int) : eqL L M = eqL M L := by
  unfold eqL; apply decide_eq_decide.2; exact eq_comm

set_option maxRecDepth 100000 in
set_option maxHeartbeats 4000000 in
theorem FrameSame_walk (A : Option Addr) (n c : Nat) (f i v : Int) (w : World) (hl : SlOp w A n) (hf : 0 ≤ f ∧ f ≤ 255) (hi : 0 ≤ i ∧ i ≤ 255) (_hv : 0 ≤ v ∧ v ≤ 18446744073709551615) :
    Calls Try.prog 5 #[.slice A n c, .int .u8 f, .int .u8 i, .int .u64 v] w fun e w' => e = .returned (.bool true) ∧ Chg [] w w' := by
  clear _hv
  obtain ⟨a, ha⟩ := Int.eq_ofNat_of_zero_le (show 0 ≤ f % 16 by omega)
  obtain ⟨b, hb⟩ := Int.eq_ofNat_of_zero_le (show 0 ≤ i % 8 by omega)
  have ha16 : a < 16 := by omega
  have hb8 : b < 8 := by omega
  have hn := hl.le
  go_enter Try.func5, Try.ntmps5
  go_wp2_with fail
  refine (head_any _).mono ?_; rintro e w1 ⟨rfl, hc1⟩
  go_wp2_with fail
  refine (New_at 16 _ (by omega) (by omega)).mono ?_; rintro e w2 ⟨p, d, rfl, hc2, hm, hp, hd⟩
  go_wp2_with fail
  refine (New_at 16 _ (by omega) (by omega)).mono ?_; rintro e w3 ⟨p2, d2, rfl, hc3, ho, hp2, hd2⟩
  go_wp2_with fail
  refine (New_at 15 _ (by omega) (by omega)).mono ?_; rintro e w4 ⟨p3, d3, rfl, hc4, hx, hp3, hd3⟩
  have hm4 := (hm.chg hc3 (by simp) (by simp)).chg hc4 (by simp) (by simp)
  have ho4 := ho.chg hc4 (by simp) (by simp)
  have hc := ((hc1.trans hc2 (by simp)).trans hc3 (by simp)).trans hc4 (by simp)
  have hlt : w.heap.size ≤ p ∧ w.heap.size ≤ d ∧ p < p2 ∧ p < d2 ∧ d < p2 ∧ d < d2 ∧ p2 < p3 ∧ p2 < d3 ∧ d2 < p3 ∧ d2 < d3 := by
    have h1 := hm.st.lt; have h2 := hm.ws.lt; have h3 := ho.st.lt; have h4 := ho.ws.lt; have h5 := hc1.size; have h6 := hc2.size; have h7 := hc3.size; omega
  have hl4 := hl.chg hc
  clear hm ho hc1 hc2 hc3 hc4 hp hd hp2 hd2 hp3 hd3
  go_wp2_with fail
  refine (Great_any A n c _ hl4).mono ?_; rintro e w' ⟨⟨g, rfl⟩, rfl⟩
  cases g with
  | true =>
    go_wp2_with fail
    go_ret
    exact ⟨rfl, hc⟩
  | false =>
    go_wp2_with fail
    go_loopw [13] (fun i w' => ∃ (k : Nat) (L : List Int), k ≤ n ∧ i = .int .i64 k ∧ Chg [] w w' ∧ MemAt w' p d 16 L ∧ MemAt w' p2 d2 16 (zeros (8 * 16)) ∧ MemAt w' p3 d3 15 (zeros (8 * 15))) (fun i _ => n - (intOf i).toNat)
    case atStart => exact ⟨0, _, by omega, rfl, hc, hm4, ho4, hx⟩
    case round =>
      obtain ⟨k, L, hk, rfl, hck, hmk, hok, hxk⟩ := hrel
      clear hc hm4 ho4 hx hl4
      by_cases hlt2 : k < n
      · obtain ⟨ob, off, rfl, what, f', i', v', LA, LN, LC, xs, ho0⟩ := hl.get hlt2
        have hop := ho0.chg hck (World.block_lt_of_cell? _ _ ho0.c0)
        have c1 := hop.c1; have c2 := hop.c2; have c3 := hop.c3
        clear hop ho0
        go_wp2_with fail
        refine wp_region_still_tail 16 (by kernel_rfl) (by kernel_rfl) ?_
        simp only [List.take_succ_cons, List.take_zero, List.drop_succ_cons, List.drop_zero]
        change wpStill _ _ (World.drew _) _ _ _
        repeat still_step
        refine wpStill_nil ?_
        change wpList _ _ _ _ _ (World.drew _)
        go_wp2_with fail
        refine (Set_at p d 16 L f' i' v' _ (hmk.chg (Chg.refl [] wr).drew (by simp) (by simp))).mono ?_; rintro e w5 ⟨rfl, hc5, hm5⟩
        have hc5' : Chg [d] wr w5 := ((Chg.refl [d] wr).drew).trans hc5 (by simp)
        have ho5 := hok.chg hc5' (by simp; omega) (by simp; omega)
        have hx5 := hxk.chg hc5' (by simp; omega) (by simp; omega)
        have hcw : Chg [] w w5 := hck.trans hc5' (by intro q hq hm; simp at hm; omega)
        clear hmk hok hxk hck hc5 hc5' c1 c2 c3
        go_wp2_with fail
        go_roundw
        case rel => exact ⟨k + 1, _, by omega, by go_num, hcw, hm5, ho5, hx5⟩
        case measure => simp [intOf]; omega
      · obtain rfl : k = n := by omega
        have hlen := hmk.len
        go_wp2_with fail
        go_loopw [14] (fun i w' => ∃ (k : Nat) (M : List Int), k ≤ 16 ∧ i = .int .i64 k ∧ Chg [] w w' ∧ MemAt w' p d 16 L ∧ MemAt w' p2 d2 16 M ∧ MemAt w' p3 d3 15 (zeros (8 * 15)) ∧ ∀ j, j < k → frameOf M j = frameOf L j) (fun i _ => 16 - (intOf i).toNat)
        case atStart => exact ⟨0, _, by omega, rfl, hck, hmk, hok, hxk, fun j hj => by omega⟩
        case round =>
          obtain ⟨k2, M, hk2, rfl, hck2, hmk2, hok2, hxk2, hall⟩ := hrel
          have HA := Lib.hid hall
          clear hck hmk hok hxk hall
          by_cases hlt3 : k2 < 16
          · have hlt4 : w.heap.size ≤ wr.heap.size := hck2.size
            have hbd : d2 < wr.heap.size := hok2.ws.lt
            have hml := hok2.len
            have HML := Lib.hid hml; have HLL := Lib.hid hlen; clear hml hlen
            have hB : fillB 16 k2 8 = true := by simp [fillB, hasF]; omega
            go_wp2_with fail
            refine (Frame_yes p d 16 L k2 _ hmk2 hlt3).mono ?_; rintro e w5 ⟨rfl, hc5, _, hb5⟩
            have hfl := frameOf_len HLL.out hlt3
            have hs5 := SlU.of_blk hb5 hfl
            have hm5 := hmk2.chg hc5 (by simp) (by simp); have ho5 := hok2.chg hc5 (by simp) (by simp); have hx5 := hxk2.chg hc5 (by simp) (by simp)
            have hcw5 := hck2.trans hc5 (by simp)
            clear hb5 hck2 hmk2 hok2 hxk2 hc5
            go_wp2_with fail
            refine (Fill_at p2 d2 16 M k2 _ 8 8 _ _ ho5 hs5 (by omega)).mono ?_; rintro e w6 ⟨rfl, hc6, ho6⟩
            have hfill : fillW 16 M k2 (frameOf L k2) = setAll M (k2 * 8) (frameOf L k2) := by simp [fillW, hfl, hB]
            rw [hfill] at ho6
            have hm6 := hm5.chg hc6 (by simp; omega) (by simp; omega); have hx6 := hx5.chg hc6 (by simp; omega) (by simp; omega)
            have hcw6 : Chg [] w w6 := hcw5.trans hc6 (by intro q hq hm; simp at hm; omega)
            have hnew : ∀ j, j < k2 + 1 → frameOf (setAll M (k2 * 8) (frameOf L k2)) j = frameOf L j := fun j hj => by
              by_cases e : j = k2
              · subst e; exact frameOf_setAll HML.out hfl hlt3
              · rw [frameOf_setAll_ne HML.out hfl hlt3 (by omega) e]; exact HA.out j (by omega)
            have HN := Lib.hid hnew
            clear hfill hnew hfl hs5 hm5 ho5 hx5 hcw5 hc6
            go_wp2_with fail
            go_roundw
            case rel => exact ⟨k2 + 1, _, by omega, by go_num, hcw6, hm6, ho6, hx6, HN.out⟩
            case measure => simp [intOf]; omega
          · obtain rfl : k2 = 16 := by omega
            have hML : M = L := frames_eq hok2.len hlen HA.out
            subst hML
            have hwab : hasW 16 a b = true := by simp [hasW]; omega
            have hg := getW_at (L := M) ha16 hb8
            have hset : setW 16 M a b v = M.set (a * 8 + b) v := by simp [setW, hwab]
            have e1 := eqL_set M (a * 8 + b) v (by omega)
            have e2 : eqL (M.set (a * 8 + b) v) M = decide (M.getD (a * 8 + b) 0 = v) := (eqL_comm _ _).trans e1
            have e3 : eqL M (zeros (8 * 15)) = false := by simp only [eqL, decide_eq_false_iff_not]; intro h; rw [h, zeros_len] at hlen; omega
            have e0 : eqL M M = true := by simp [eqL]
            have hwr := hok2.ws.lt
            clear HA hlen
            generalize M.getD (a * 8 + b) 0 = x at *
            go_wp2_with fail
            refine (Same_any p d 16 M p2 d2 16 M _ hmk2 hok2).mono ?_; rintro e w' ⟨rfl, q, rfl⟩
            have hm5 := hmk2.chg (Chg.refl [] wr |>.drewN q) (by simp) (by simp); have ho5 := hok2.chg (Chg.refl [] wr |>.drewN q) (by simp) (by simp); have hx5 := hxk2.chg (Chg.refl [] wr |>.drewN q) (by simp) (by simp)
            have hc5 := hck2.drewN q
            clear hmk2 hok2 hxk2 hck2
            go_wp2_with fail
            refine (Get_at p d 16 M a b _ hm5).mono ?_; rintro e w' ⟨rfl, rfl⟩
            go_wp2_with fail
            refine (Set_at p2 d2 16 M a b v _ ho5).mono ?_; rintro e w6 ⟨rfl, hc6, ho6⟩
            rw [hset] at ho6
            have hm6 := hm5.chg hc6 (by simp; omega) (by simp; omega); have hx6 := hx5.chg hc6 (by simp; omega) (by simp; omega)
            have hc06 : Chg [] w w6 := hc5.trans hc6 (by intro q hq hm; simp at hm; omega)
            clear hm5 ho5 hx5 hc5 hc6 hset
            by_cases hxv : x = v
            · have hb1 : (x == v) = true := by simp [hxv]
              have d1 : decide (x = v) = true := by simp [hxv]
              clear hxv
              rw [d1] at e1 e2
              clear d1
              go_wp2_with fail
              refine (Same_any p d 16 M p2 d2 16 _ _ hm6 ho6).mono ?_; rintro e w' ⟨rfl, q1, rfl⟩
              go_wp2_with fail
              refine (Same_any p2 d2 16 _ p d 16 M _ (ho6.chg (Chg.refl [] w6 |>.drewN q1) (by simp) (by simp)) (hm6.chg (Chg.refl [] w6 |>.drewN q1) (by simp) (by simp))).mono ?_; rintro e w' ⟨rfl, q2, rfl⟩
              go_wp2_with fail
              refine (Same_any p d 16 M p3 d3 15 _ _ (hm6.chg (Chg.refl [] w6 |>.drewN (q1 + q2)) (by simp) (by simp)) (hx6.chg (Chg.refl [] w6 |>.drewN (q1 + q2)) (by simp) (by simp))).mono ?_; rintro e w' ⟨rfl, q3, rfl⟩
              go_wp2_with fail
              go_ret
              exact ⟨rfl, hc06.drewN _⟩
            · have hb1 : (x == v) = false := by simp [hxv]
              have d1 : decide (x = v) = false := by simp [hxv]
              clear hxv
              rw [d1] at e1 e2
              clear d1
              go_wp2_with fail
              refine (Same_any p d 16 M p2 d2 16 _ _ hm6 ho6).mono ?_; rintro e w' ⟨rfl, q1, rfl⟩
              go_wp2_with fail
              refine (Same_any p2 d2 16 _ p d 16 M _ (ho6.chg (Chg.refl [] w6 |>.drewN q1) (by simp) (by simp)) (hm6.chg (Chg.refl [] w6 |>.drewN q1) (by simp) (by simp))).mono ?_; rintro e w' ⟨rfl, q2, rfl⟩
              go_wp2_with fail
              refine (Same_any p d 16 M p3 d3 15 _ _ (hm6.chg (Chg.refl [] w6 |>.drewN (q1 + q2)) (by simp) (by simp)) (hx6.chg (Chg.refl [] w6 |>.drewN (q1 + q2)) (by simp) (by simp))).mono ?_; rintro e w' ⟨rfl, q3, rfl⟩
              go_wp2_with fail
              go_ret
              exact ⟨rfl, hc06.drewN _⟩

end Go.Proofs.Yteljchmadapnfaa
