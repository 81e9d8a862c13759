/-
  The contracts of the document's Right, Apply, Put and Get.
-/
import Derived.Test.YtgebfagiomcmbaaGreatDoorChoiceDK
namespace Go.Proofs.YtgebfagiomcmbaaGreatDoor
open Go.RowKit Go.Shelf

set_option maxRecDepth 100000 in
theorem RChRight_any (f : Bool) (p : Int) (w : World) : Calls Tryz.prog 66 #[.agg #[.bool f, .int .i64 p]] w fun e w' => e = .returned (.bool (Ch.ok ⟨f, p⟩)) ∧ Chg [] w w' := by
  have hb := Blk.new w 56 #[.bool f, .int .i64 p]
  have hc : Chg [] w (w.alloc (.cells #[.bool f, .int .i64 p] 56)) := (Chg.refl [] w).alloc _
  obtain ⟨c0, c1⟩ := blk2 hb
  have e : Ch.ok ⟨f, p⟩ = (decide (p ≥ 0) && decide (p < 512)) := by unfold Ch.ok; simp
  rw [e]
  clear e
  cases h0 : decide (p ≥ 0) <;> cases h1 : decide (p < 512)
  all_goals
    go_enter Tryz.func66, Tryz.ntmps66
    go_wp2_with fail
    go_ret
    exact ⟨rfl, hc⟩

set_option maxRecDepth 100000 in
set_option maxHeartbeats 4000000 in
theorem RChPut_any (A : Option Addr) (nn c : Nat) (l : List Ch) (w : World) (hs : SlG chE w A nn l) (hb : nn ≤ 1000000) :
    Calls Tryz.prog 27 #[.slice A nn c] w fun e w' => ∃ A' c', e = .returned (.slice A' (putC l).length c') ∧ LG (numE .u8) w w' 5 (.slice A' (putC l).length c') (putC l) := by
  have hll := Lib.hid hs.len
  go_enter Tryz.func27, Tryz.ntmps27
  go_wp2_with fail
  go_loopg [3, 4] nn (fun gg s3 s4 wr => ∃ (k : Nat) (A' : Option Addr) (c' : Nat), k ≤ nn ∧ nn - k ≤ gg ∧ s3 = .slice A' (2 * k) c' ∧ s4 = .int .i64 k ∧ Aside (LG (numE .u8) w wr 5 (.slice A' (2 * k) c') (bytC (l.take k))) ∧ Aside ((l.take k).all Ch.ok = true))
  case atStart => exact ⟨0, none, 0, by omega, by omega, rfl, rfl, (LG.none_ w _ : LG (numE .u8) w w 5 (.slice none 0 0) (bytC (l.take 0))), (by show (l.take 0).all Ch.ok = true; simp)⟩
  case round =>
    obtain ⟨k, A', c', hk, hg, rfl, rfl, lg, hall⟩ := hrel
    replace lg := lg.out
    by_cases hlt : k < nn
    · obtain ⟨bl, off, ⟨cf, cp⟩, rfl, hbl, hx, c0, c1⟩ := SlC.get (hs.new lg.1) hlt
      simp only at c0 c1
      have hR := fun w9 => RChRight_any cf cp w9
      have hbad := all_not hx
      have hby := bytC_succ hx
      have hal := all_succ hx
      have hlt' : (k : Int) < (nn : Int) := by omega
      have hcell : ∀ w', Chg [] wr w' → w'.cell? ⟨bl, off + k * 2, none⟩ = some (.bool cf) ∧ w'.cell? ⟨bl, off + k * 2 + 1, none⟩ = some (.int .i64 cp) := fun w' hc => ⟨(hc.cell hbl (by simp)).trans c0, (hc.cell hbl (by simp)).trans c1⟩
      clear hx
      cases hok : Ch.ok ⟨cf, cp⟩ with
      | false =>
        rw [hok] at hR
        replace hbad := Lib.hid (hbad hok)
        clear hok hal hby
        go_wp2_with fail
        refine (hR _).mono ?_; rintro e w2 ⟨rfl, k2⟩
        go_wp2_with fail
        go_ret
        rw [hbad.out]
        exact ⟨none, 0, rfl, lg.1.trans k2 (by simp), OwnG.none_ _ _, by intro g hg; simp [Value.ownBlock] at hg⟩
      | true =>
        rw [hok] at hR hal
        have hpr : 0 ≤ cp ∧ cp < 512 := by have h := hok; unfold Ch.ok at h; rw [decide_eq_true_eq] at h; exact h
        replace hal : Hid ((l.take (k + 1)).all Ch.ok = true) := Lib.hid (by rw [hal, hall.out]; rfl)
        have hlen : (bytC (l.take k)).length = 2 * k := by rw [bytC_len, List.length_take, Nat.min_eq_left (by rw [hll.out]; omega)]
        have htd : Int.tdiv cp 256 = cp / 256 := Int.tdiv_eq_ediv_of_nonneg hpr.1
        have htm : Int.tmod cp 256 = cp % 256 := Int.tmod_eq_emod_of_nonneg hpr.1
        have hw1 : cp / 256 % 256 = cp / 256 := by omega
        have hw2 : cp % 256 % 256 = cp % 256 := by omega
        have hw3 : (cp / 256 + 128) % 256 = cp / 256 + 128 := by omega
        clear hok hbad
        skip
        cases cf with
        | false =>
          replace hby : Hid (bytC (l.take (k + 1)) = bytC (l.take k) ++ [cp / 256, cp % 256]) := Lib.hid (by rw [hby]; simp [Ch.hi, Ch.lo])
          go_wp2_with fail
          refine (hR _).mono ?_; rintro e w2 ⟨rfl, k2⟩
          have lg2 := lg.new k2
          clear c0 c1 hR lg
          obtain ⟨c0, c1⟩ := hcell _ k2
          go_wp2_with (at_builtin; refine wpList_append_G rfl _ _ 25 rfl 5 (.int .u8 0) 1 Tryz.underlying25 (by kernel_rfl) rfl (.slice A' (2 * k) c') _ rfl (lg2.new ((Chg.refl [] w2).alloc _)).2.1 (some ⟨w2.heap.size, 0, none⟩) 2 2 [cp / 256, cp % 256] rfl (OwnG.src (OwnG.lit (Blk.new w2 5 #[.int .u8 (cp / 256), .int .u8 (cp % 256)]) (by simp))) rfl (by omega) ?_; intro v4 w4 ho4 hc4 hv4; obtain ⟨A4, c4, rfl, _, _⟩ := ho4.form)
          have lg4 := ((lg2.new ((Chg.refl [] w2).alloc _)).app ho4 hc4 hv4).len_ (m := 2 * (k + 1)) (by rw [List.length_append, hlen]; rfl)
          rw [← hby.out] at lg4
          go_roundg (nn - (k + 1))
          case measure => omega
          case rel => exact ⟨k + 1, A4, c4, by omega, by omega, rfl, by go_num, lg4, hal.out⟩
        | true =>
          replace hby : Hid (bytC (l.take (k + 1)) = bytC (l.take k) ++ [cp / 256 + 128, cp % 256]) := Lib.hid (by rw [hby]; simp [Ch.hi, Ch.lo])
          go_wp2_with fail
          refine (hR _).mono ?_; rintro e w2 ⟨rfl, k2⟩
          have lg2 := lg.new k2
          clear c0 c1 hR lg
          obtain ⟨c0, c1⟩ := hcell _ k2
          go_wp2_with (at_builtin; refine wpList_append_G rfl _ _ 25 rfl 5 (.int .u8 0) 1 Tryz.underlying25 (by kernel_rfl) rfl (.slice A' (2 * k) c') _ rfl (lg2.new ((Chg.refl [] w2).alloc _)).2.1 (some ⟨w2.heap.size, 0, none⟩) 2 2 [cp / 256 + 128, cp % 256] rfl (OwnG.src (OwnG.lit (Blk.new w2 5 #[.int .u8 (cp / 256 + 128), .int .u8 (cp % 256)]) (by simp))) rfl (by omega) ?_; intro v4 w4 ho4 hc4 hv4; obtain ⟨A4, c4, rfl, _, _⟩ := ho4.form)
          have lg4 := ((lg2.new ((Chg.refl [] w2).alloc _)).app ho4 hc4 hv4).len_ (m := 2 * (k + 1)) (by rw [List.length_append, hlen]; rfl)
          rw [← hby.out] at lg4
          go_roundg (nn - (k + 1))
          case measure => omega
          case rel => exact ⟨k + 1, A4, c4, by omega, by omega, rfl, by go_num, lg4, hal.out⟩
    · obtain rfl : k = nn := by omega
      rw [show l.take k = l from by rw [← hll.out, List.take_length]] at *
      have e : putC l = bytC l := by unfold putC; rw [if_pos hall.out]
      go_wp2_with fail
      go_ret
      have e2 : (bytC l).length = 2 * k := by rw [bytC_len, hll.out]
      rw [e, e2]
      exact ⟨A', c', rfl, lg⟩

end Go.Proofs.YtgebfagiomcmbaaGreatDoor
