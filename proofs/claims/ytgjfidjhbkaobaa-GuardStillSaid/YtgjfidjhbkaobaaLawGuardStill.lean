/-
  GuardStill: the law, walked from contracts.
-/
import Derived.Test.YtgjfidjhbkaobaaGuardW
import Derived.Test.YtgjfidjhbkaobaaRows40
import Derived.Test.YtgjfidjhbkaobaaStoreW
import Derived.Deep.CutRange
namespace Go.Proofs.Ytgjfidjhbkaobaa
open Go.RowKit Go.Maps

theorem still_frame {W W' : List Int} (h : Still 4 8 W W') {f : Nat} (hf : f < 4 ∨ 12 ≤ f) : frameW 40 W' (f : Int) = frameW 40 W (f : Int) := by
  have e : ∀ W : List Int, frameW 40 W (f : Int) = if hasF 40 (f : Int) then (W.drop (f * 8)).take 8 else [] := fun W => by unfold frameW frameOf; rw [Int.toNat_natCast]
  rw [e, e]
  split
  · apply List.ext_getElem?
    intro j
    rw [List.getElem?_take, List.getElem?_take]
    split
    · rw [List.getElem?_drop, List.getElem?_drop]
      have h2 := h.2 (f * 8 + j) (by omega)
      have hl := h.1
      by_cases hlt : f * 8 + j < W.length
      · rw [List.getElem?_eq_getElem (by omega), List.getElem?_eq_getElem hlt]
        rw [List.getD_eq_getElem?_getD, List.getD_eq_getElem?_getD, List.getElem?_eq_getElem (by omega), List.getElem?_eq_getElem hlt] at h2
        simpa using h2
      · rw [List.getElem?_eq_none (by omega), List.getElem?_eq_none (by omega)]
    · rfl
  · rfl
theorem do_still {d : Gd} (h : GdIn 40 4 8 gl16 d) {o : Gst} (h12 : o.what ≠ 12) : Still 4 8 d.s.W (doG d o).s.W := by
  have hs := h.ok.sr
  unfold doG
  split
  · exact Still.makes h.ok _
  split
  · show Still 4 8 d.s.W (childS 40 d.s o.p o.i o.t o.r).W
    unfold childS; split
    · rename_i hb; unfold childB at hb; rw [Bool.and_eq_true, Bool.and_eq_true] at hb; exact Still.set hs _ _ hb.1.1
    · exact Still.refl _ _ _
  split
  · show Still 4 8 d.s.W (leafS 40 d.s o.p o.i o.t (24 + o.t % 16) o.r).W
    unfold leafS; split
    · rename_i hb; unfold leafB at hb; rw [Bool.and_eq_true, Bool.and_eq_true] at hb; exact Still.set hs _ _ hb.1.1
    · exact Still.refl _ _ _
  split
  · exact Still.zap h.ok _ _
  split
  · exact Still.zaps _ h.ok _
  split
  · unfold loosenG; split <;> exact Still.refl _ _ _
  split
  · exact Still.look h.ok _
  split
  · exact Still.looks _ h.ok
  split
  · exact Still.dropG h.ok _
  split <;> exact Still.refl _ _ _
/-- calls, but those that set a guest's word -/
def doN (d : Gd) (o : Gst) : Gd := if o.what = 12 then d else doG d o
theorem doN_take {d : Gd} {l : List Gst} {k : Nat} {o : Gst} (h : l[k]? = some o) : (l.take (k + 1)).foldl doN d = doN ((l.take k).foldl doN d) o := by
  obtain ⟨h1, h2⟩ := List.getElem?_eq_some_iff.1 h
  rw [List.take_succ_eq_append_getElem h1, h2, List.foldl_append]; rfl
set_option maxRecDepth 100000 in
set_option maxHeartbeats 20000000 in
/-- no word of the guest's memory is changed, nor any of the host's frames but the shadow pages' -/
theorem lawGuardStill_any (A : Option Addr) (n c : Nat) (P : List Pu) (B : Option Addr) (m e0 : Nat) (L : List Gst) (w : World) (hP : SlP w A n P) (hl : GopsIn w B m L) :
    Calls Try.prog 5 #[.slice A n c, .slice B m e0] w fun e w' => e = .returned (.bool true) ∧ Chg [] w w' := by
  have hHd := fun w' => GHead_any w'
  have hGr := fun z => Great16_any A n c B m e0 z
  have hmm := hl.sl.len
  have hm9 := hl.sl.le
  replace hmm := Lib.hid hmm
  have H0 := SepC.nil w
  cases hg_ : (decide (n > 600) || decide (m > 120))
  rotate_left
  · rw [hg_] at hGr
    go_enter Try.func5, Try.ntmps5
    go_wp2_with fail
    refine (hHd _).mono ?_; rintro e z1 ⟨rfl, y1⟩
    have H1 := H0.new y1
    clear H0 y1 hHd
    go_wp2_with fail
    refine (Made16_at (hP.self H1.1)).mono ?_; intro e z2 hMP
    unfold MadeP16 at hMP
    obtain ⟨wb, dd, gq, mp, q, hp, hb, t, rfl, HM⟩ := hMP
    have H := H1.merge HM
    clear H1 HM hP
    go_wp2_with fail
    refine (hGr _).mono ?_; rintro e z3 ⟨rfl, rfl⟩
    clear hGr
    go_wp2_with fail
    go_ret
    exact ⟨rfl, H.1⟩
  rw [hg_] at hGr
  clear hg_
  go_enter Try.func5, Try.ntmps5
  go_wp2_with fail
  refine (hHd _).mono ?_; rintro e z1 ⟨rfl, y1⟩
  have H1 := H0.new y1
  clear H0 y1 hHd
  go_wp2_with fail
  refine (Made16_at (hP.self H1.1)).mono ?_; intro e z2 hMP
  unfold MadeP16 at hMP
  obtain ⟨wb, dd, gq, mp, q, hp, hb, t, rfl, HM⟩ := hMP
  have H := H1.merge HM
  clear H1 HM hP
  go_wp2_with fail
  refine (hGr _).mono ?_; rintro e z3 ⟨rfl, rfl⟩
  clear hGr
  obtain ⟨W0, hW0⟩ : ∃ W0, madeG P = W0 := ⟨_, rfl⟩
  rw [hW0] at H
  have hWl : W0.length = 8 * 40 := by have := H.gIn.ok.sr.len; exact this
  clear hW0
  have H4 := (H.alloc (Array.replicate 40 (.slice none 0 0)) 71).rowsF0 (fun j => frameW 40 W0 (j : Int))
  rw [show (Array.replicate 40 (Value.slice none 0 0)) = #[.slice none 0 0, .slice none 0 0, .slice none 0 0, .slice none 0 0, .slice none 0 0, .slice none 0 0, .slice none 0 0, .slice none 0 0, .slice none 0 0, .slice none 0 0, .slice none 0 0, .slice none 0 0, .slice none 0 0, .slice none 0 0, .slice none 0 0, .slice none 0 0, .slice none 0 0, .slice none 0 0, .slice none 0 0, .slice none 0 0, .slice none 0 0, .slice none 0 0, .slice none 0 0, .slice none 0 0, .slice none 0 0, .slice none 0 0, .slice none 0 0, .slice none 0 0, .slice none 0 0, .slice none 0 0, .slice none 0 0, .slice none 0 0, .slice none 0 0, .slice none 0 0, .slice none 0 0, .slice none 0 0, .slice none 0 0, .slice none 0 0, .slice none 0 0, .slice none 0 0] from rfl] at H4
  go_wp2_with fail
  generalize z3.alloc (.cells #[.slice none 0 0, .slice none 0 0, .slice none 0 0, .slice none 0 0, .slice none 0 0, .slice none 0 0, .slice none 0 0, .slice none 0 0, .slice none 0 0, .slice none 0 0, .slice none 0 0, .slice none 0 0, .slice none 0 0, .slice none 0 0, .slice none 0 0, .slice none 0 0, .slice none 0 0, .slice none 0 0, .slice none 0 0, .slice none 0 0, .slice none 0 0, .slice none 0 0, .slice none 0 0, .slice none 0 0, .slice none 0 0, .slice none 0 0, .slice none 0 0, .slice none 0 0, .slice none 0 0, .slice none 0 0, .slice none 0 0, .slice none 0 0, .slice none 0 0, .slice none 0 0, .slice none 0 0, .slice none 0 0, .slice none 0 0, .slice none 0 0, .slice none 0 0, .slice none 0 0] 71) = w4 at *
  generalize z3.heap.size = g8 at *
  clear H
  skip
  go_loopw [8] (fun s8 wr => ∃ f : Nat, f ≤ 40 ∧ s8 = .int .i64 f ∧ SepC w wr (rowsF g8 71 (fun j => frameW 40 W0 (j : Int)) f :: gdT dd gq mp q hp hb t 40 4 8 8 gl16 (gd0 W0) :: blkT wb 43 (wdC hp gq q t dd) :: [])) (fun s8 _ => 40 - (intOf s8).toNat)
  case atStart => exact ⟨0, by omega, rfl, H4⟩
  case round =>
    clear H4
    obtain ⟨f, hf, rfl, H⟩ := hrel
    by_cases hf24 : f < 40
    · have hfz : (f : Int) < 40 := by omega
      obtain ⟨_, hfl⟩ := frameW_take (n := 40) hWl hf24
      have cF := Frame_at hp hb 40 W0 (f : Int) wr (H.tail).kMem
      rw [hfl] at cF
      obtain ⟨w0_, w1_, w2_, w3_, w4_⟩ := wdC_cells (H.pick 2 rfl).blk
      go_wp2_with fail
      refine cF.mono ?_; rintro e w5 ⟨A5, c5, rfl, y5, hu5, hA5, _⟩
      clear cF w0_ w1_ w2_ w3_ w4_
      have H5 := H.new y5
      obtain ⟨⟨Ao, no, co, hco⟩, hfo⟩ := H5.rowCellF hf24
      have H6 := H.rowPutF (c := c5) y5 hf24 hu5 hA5
      clear H H5 hu5 hA5 y5
      go_wp2_with fail
      go_roundw
      case rel => exact ⟨f + 1, by omega, by go_num, H6⟩
      case measure => simp [intOf]; omega
    · have ef : f = 40 := by omega
      subst ef
      have hfz : ¬ ((40 : Nat) : Int) < 40 := by omega
      go_wp2_with fail
      replace H : SepC w _ (rowsF g8 71 (fun j => frameW 40 W0 (j : Int)) 40 :: gdT dd gq mp q hp hb t 40 4 8 8 gl16 ((L.take 0).foldl doN (gd0 W0)) :: blkT wb 43 (wdC hp gq q t dd) :: []) := H
      go_loopw [9] (fun s_ wr => ∃ k : Nat, k ≤ m ∧ s_ = .int .i64 k ∧ SepC w wr (rowsF g8 71 (fun j => frameW 40 W0 (j : Int)) 40 :: gdT dd gq mp q hp hb t 40 4 8 8 gl16 ((L.take k).foldl doN (gd0 W0)) :: blkT wb 43 (wdC hp gq q t dd) :: []) ∧ Aside (Still 4 8 W0 ((L.take k).foldl doN (gd0 W0)).s.W)) (fun s_ _ => m - (intOf s_).toNat)
      case atStart => exact ⟨0, Nat.zero_le _, rfl, H, (show Aside _ from Still.refl _ _ _)⟩
      case round =>
        clear H
        obtain ⟨k, hk, rfl, H, hst⟩ := hrel
        by_cases hlt : k < m
        · have hltz : (k : Int) < (m : Int) := by omega
          obtain ⟨b, off, o, rfl, ho, c0, c1, c2, c3, c4, c5, c6, c7, c8, c9, c10⟩ := gopE_cells (hl.new H.1).sl hlt
          have hsn := doN_take (d := gd0 W0) ho
          have hwf := hl.at_ ho
          generalize (L.take k).foldl doN (gd0 W0) = d at *
          replace hsn := Lib.hid hsn
          have G := (H.tail).gIn
          by_cases h12 : o.what = 12
          · have hb12 : (o.what != 12) = false := by simp [h12]
            have en : doN d o = d := by unfold doN; rw [if_pos h12]
            replace h12 := Lib.hid h12
            go_wp2_with fail
            go_roundw
            case rel => exact ⟨k + 1, by omega, by go_num, by rw [hsn.out, en]; exact H, (show Aside _ from by rw [hsn.out, en]; exact hst.out)⟩
            case measure => simp [intOf]; omega
          · have hb12 : (o.what != 12) = true := by simp [h12]
            have en : doN d o = doG d o := by unfold doN; rw [if_neg h12]
            have hds := do_still G h12
            replace h12 := Lib.hid h12; replace en := Lib.hid en
            have hD := ((H.pick 2 rfl).pick 2 rfl).wDo o hwf
            simp only [Gst.cs] at hD
            go_wp2_with fail
            refine hD.mono ?_; rintro e w2 ⟨rfl, H2⟩
            clear hD c0 c1 c2 c3 c4 c5 c6 c7 c8 c9 c10 H
            go_wp2_with fail
            go_roundw
            case rel => exact ⟨k + 1, by omega, by go_num, by rw [hsn.out, en.out]; exact H2.pick 2 rfl, (show Aside _ from by rw [hsn.out, en.out]; exact hst.out.trans hds)⟩
            case measure => simp [intOf]; omega
        · have ek : k = m := by omega
          subst ek
          have hltz : ¬ (k : Int) < (k : Int) := by omega
          generalize (L.take k).foldl doN (gd0 W0) = d at *
          have hout := fun (f : Nat) hf => still_frame hst.out (f := f) hf
          clear hst hl hmm hm9 hlt hk hltz
          go_wp2_with fail
          go_loopw [10] (fun s_ wr => ∃ f : Nat, f ≤ 40 ∧ s_ = .int .i64 f ∧ SepC w wr (rowsF g8 71 (fun j => frameW 40 W0 (j : Int)) 40 :: gdT dd gq mp q hp hb t 40 4 8 8 gl16 (d) :: blkT wb 43 (wdC hp gq q t dd) :: [])) (fun s_ _ => 40 - (intOf s_).toNat)
          case atStart => exact ⟨0, by omega, rfl, H⟩
          case round =>
            clear H
            obtain ⟨f, hf, rfl, H⟩ := hrel
            by_cases hf24 : f < 40
            · have hfz : (f : Int) < 40 := by omega
              go_upto_region 18 with fail
              by_cases hlo : f < 4
              · have hm := (H.tail).kMem
                obtain ⟨Ar, cr, hrow, hur⟩ := H.rowGetF hf24
                have hg8 : g8 < wr.heap.size := World.block_lt_of_cell? _ _ hrow
                obtain ⟨_, hfl⟩ := frameW_take (n := 40) hWl hf24
                have hFr : ∀ w', Chg [] wr w' → Calls Try.prog 29 #[.pointer (some ⟨hp, 0, none⟩), .int .i64 f] w' fun e w'' => ∃ A c, e = .returned (.slice A 8 c) ∧ SlU w'' A 8 (frameW 40 W0 (f : Int)) ∧ Chg [] w' w'' := by
                  intro w' hc
                  have h1 := Frame_at hp hb 40 d.s.W (f : Int) w' (hm.chg hc (by simp) (by simp))
                  rw [hout f (by omega), hfl] at h1
                  exact h1.mono fun _ _ ⟨A, c, e, y, hu, _, _⟩ => ⟨A, c, e, hu, y⟩
                have hSm : ∀ (A1 : Option Addr) (c1 : Nat) w', SlU w' A1 8 (frameW 40 W0 (f : Int)) → Chg [] wr w' → Calls Try.prog 30 #[.slice A1 8 c1, .slice Ar 8 cr] w' fun e w'' => e = .returned (.bool true) ∧ Chg [] w' w'' := by
                  intro A1 c1 w' hu hc
                  have h1 := SameWords_any A1 Ar 8 8 c1 cr _ _ w' hu (hur.chg hc (by simp)) (by omega) (by omega)
                  rw [eqL_self] at h1
                  exact h1.mono fun _ _ ⟨e, qd, h2⟩ => ⟨e, by rw [h2]; exact (Chg.refl [] w').drewN qd⟩
                clear hfl hm hur
                have hwq : ∀ z, Chg [] wr z → z.cell? ⟨wb, 0, none⟩ = some (.pointer (some ⟨hp, 0, none⟩)) := fun z hz => (wdC_cells ((H.new hz).pick 2 rfl).blk).1
                have g1 : decide ((f : Int) < 4) = true := by simp; omega
                refine wp_region_noPanic ?_
                refine wp_region_held_drew (S := (fun w' => Chg [] wr w')) (by kernel_rfl) ?_ (fun hHeld => ?_)
                · exact (Chg.refl [] wr).drew
                (refine take_on 0 (some 60) (v := ?_) rfl rfl (by kernel_rfl) (by kernel_rfl) (by kernel_rfl) (fun _ _ _ h => h) (by rfl) (by assumption) ?_ ?_; rotate_left; · (intro w hSw; go_simp; (try with_reducible rfl)))
                (try simp only [Act.put, List.setIfInBounds_toArray, List.set_cons_zero, List.set_cons_succ])
                (refine take_on 1 (some 61) (v := ?_) rfl rfl (by kernel_rfl) (by kernel_rfl) (by kernel_rfl) (fun _ _ _ h => h) (by rfl) (by assumption) ?_ ?_; rotate_left; · (intro w hSw; go_simp; (try with_reducible rfl)))
                (try simp only [Act.put, List.setIfInBounds_toArray, List.set_cons_zero, List.set_cons_succ])
                (refine take_on 2 (some 62) (v := ?_) rfl rfl (by kernel_rfl) (by kernel_rfl) (by kernel_rfl) (fun _ _ _ h => h) (by rfl) (by assumption) ?_ ?_; rotate_left; · (intro w hSw; go_simp; (try with_reducible rfl)))
                (try simp only [Act.put, List.setIfInBounds_toArray, List.set_cons_zero, List.set_cons_succ])
                (refine take_off 3 (some 63) rfl rfl (by kernel_rfl) (by kernel_rfl) (by kernel_rfl) (fun _ _ _ h => h) (by rfl) (by assumption) ?_)
                (try simp only [Act.put, List.setIfInBounds_toArray, List.set_cons_zero, List.set_cons_succ])
                (refine take_off 4 (some 64) rfl rfl (by kernel_rfl) (by kernel_rfl) (by kernel_rfl) (fun _ _ _ h => h) (by rfl) (by assumption) ?_)
                (try simp only [Act.put, List.setIfInBounds_toArray, List.set_cons_zero, List.set_cons_succ])
                (refine take_on 5 (some 65) (v := ?_) rfl rfl (by kernel_rfl) (by kernel_rfl) (by kernel_rfl) (fun _ _ _ h => h) (by rfl) (by assumption) ?_ ?_; rotate_left; · (intro w hSw; go_simp; (try with_reducible rfl)))
                (try simp only [Act.put, List.setIfInBounds_toArray, List.set_cons_zero, List.set_cons_succ])
                (refine take_on 6 (some 66) (v := ?_) rfl rfl (by kernel_rfl) (by kernel_rfl) (by kernel_rfl) (fun _ _ _ h => h) (by rfl) (by assumption) ?_ ?_; rotate_left; · (intro w hSw; go_simp; (try with_reducible rfl)))
                (try simp only [Act.put, List.setIfInBounds_toArray, List.set_cons_zero, List.set_cons_succ])
                (refine take_on 7 (some 67) (v := ?_) rfl rfl (by kernel_rfl) (by kernel_rfl) (by kernel_rfl) (fun _ _ _ h => h) (by rfl) (by assumption) ?_ ?_; rotate_left; · (intro w hSw; go_simp; (try with_reducible rfl)))
                (try simp only [Act.put, List.setIfInBounds_toArray, List.set_cons_zero, List.set_cons_succ])
                (refine take_on 8 (some 68) (v := ?_) rfl rfl (by kernel_rfl) (by kernel_rfl) (by kernel_rfl) (fun _ _ _ h => h) (by rfl) (by assumption) ?_ ?_; rotate_left; · (intro w hSw; go_simp; (try with_reducible rfl)))
                (try simp only [Act.put, List.setIfInBounds_toArray, List.set_cons_zero, List.set_cons_succ])
                (refine take_on 9 (some 69) (v := ?_) rfl rfl (by kernel_rfl) (by kernel_rfl) (by kernel_rfl) (fun _ _ _ h => h) (by rfl) (by assumption) ?_ ?_; rotate_left; · (intro w hSw; go_simp; (try with_reducible rfl)))
                (try simp only [Act.put, List.setIfInBounds_toArray, List.set_cons_zero, List.set_cons_succ])
                (refine take_on 10 (some 70) (v := ?_) rfl rfl (by kernel_rfl) (by kernel_rfl) (by kernel_rfl) (fun _ _ _ h => h) (by rfl) (by assumption) ?_ ?_; rotate_left; · (intro w hSw; (try dsimp only at hSw); have d0 := (hSw.cell (p := ⟨g8, f, none⟩) hg8 (by simp)).trans hrow; have d1 := hwq _ hSw; go_simp; (try with_reducible rfl)))
                (try simp only [Act.put, List.setIfInBounds_toArray, List.set_cons_zero, List.set_cons_succ])
                (refine take_on 11 (some 71) (v := ?_) rfl rfl (by kernel_rfl) (by kernel_rfl) (by kernel_rfl) (fun _ _ _ h => h) (by rfl) (by assumption) ?_ ?_; rotate_left; · (intro w hSw; go_simp; (try with_reducible rfl)))
                (try simp only [Act.put, List.setIfInBounds_toArray, List.set_cons_zero, List.set_cons_succ])
                (refine take_on 13 (some 73) (v := ?_) rfl rfl (by kernel_rfl) (by kernel_rfl) (by kernel_rfl) (fun _ _ _ h => h) (by rfl) (by assumption) ?_ ?_; rotate_left; · (intro w hSw; go_simp; (try with_reducible rfl)))
                (try simp only [Act.put, List.setIfInBounds_toArray, List.set_cons_zero, List.set_cons_succ])
                (refine take_on 14 (some 74) (v := ?_) rfl rfl (by kernel_rfl) (by kernel_rfl) (by kernel_rfl) (fun _ _ _ h => h) (by rfl) (by assumption) ?_ ?_; rotate_left; · (intro w hSw; go_simp; (try with_reducible rfl)))
                (try simp only [Act.put, List.setIfInBounds_toArray, List.set_cons_zero, List.set_cons_succ])
                (refine take_on 15 (some 75) (v := ?_) rfl rfl (by kernel_rfl) (by kernel_rfl) (by kernel_rfl) (fun _ _ _ h => h) (by rfl) (by assumption) ?_ ?_; rotate_left; · (intro w hSw; (try dsimp only at hSw); have d0 := (hSw.cell (p := ⟨g8, f, none⟩) hg8 (by simp)).trans hrow; have d1 := hwq _ hSw; go_simp; (try with_reducible rfl)))
                (try simp only [Act.put, List.setIfInBounds_toArray, List.set_cons_zero, List.set_cons_succ])
                refine wpAnyH_ready (rs := [12]) (by kernel_rfl) (by simp) ?_; refine AllReadyH.cons (o := _) rfl (fun K hK => ?_) AllReadyH.nil
                go_simp
                go_at_call 29; refine (hFr _ hHeld).mono ?_; rintro e_0 w_0 ⟨A1, c1, rfl, hu1, y0⟩; first | exact hx_ | skip
                refine hK.out _ _ (by (try dsimp only); exact hHeld.trans y0 (by simp)) (fun hHeld => ?_)
                clear hK K
                (try simp only [Act.put, List.setIfInBounds_toArray, List.set_cons_zero, List.set_cons_succ])
                refine wpAnyH_ready (rs := [16]) (by kernel_rfl) (by simp) ?_; refine AllReadyH.cons (o := _) rfl (fun K hK => ?_) AllReadyH.nil
                go_simp
                go_at_call 30; refine (hSm A1 c1 _ hu1 hHeld).mono ?_; rintro e_1 w_1 ⟨rfl, y1⟩; first | exact hx_ | skip
                refine hK.out _ _ (by (try dsimp only); exact hHeld.trans y1 (by simp)) (fun hHeld => ?_)
                clear hK K
                (try simp only [Act.put, List.setIfInBounds_toArray, List.set_cons_zero, List.set_cons_succ])
                (refine take_on 17 (some 77) (v := ?_) rfl rfl (by kernel_rfl) (by kernel_rfl) (by kernel_rfl) (fun _ _ _ h => h) (by rfl) (by assumption) ?_ ?_; rotate_left; · (intro w hSw; go_simp; (try with_reducible rfl)))
                (try simp only [Act.put, List.setIfInBounds_toArray, List.set_cons_zero, List.set_cons_succ])
                (refine take_on 18 (some 78) (v := ?_) rfl rfl (by kernel_rfl) (by kernel_rfl) (by kernel_rfl) (fun _ _ _ h => h) (by rfl) (by assumption) ?_ ?_; rotate_left; · (intro w hSw; go_simp; (try with_reducible rfl)))
                (try simp only [Act.put, List.setIfInBounds_toArray, List.set_cons_zero, List.set_cons_succ])
                refine wpAnyH_done (by kernel_rfl) ?_ _
                refine NoPanic.normal ?_
                have H5 := H.new hHeld
                clear H
                go_wp2_with fail
                go_roundw
                case rel => exact ⟨f + 1, by omega, by go_num, H5⟩
                case measure => simp [intOf]; omega
              · by_cases hhi : 12 ≤ f
                · have hm := (H.tail).kMem
                  obtain ⟨Ar, cr, hrow, hur⟩ := H.rowGetF hf24
                  have hg8 : g8 < wr.heap.size := World.block_lt_of_cell? _ _ hrow
                  obtain ⟨_, hfl⟩ := frameW_take (n := 40) hWl hf24
                  have hFr : ∀ w', Chg [] wr w' → Calls Try.prog 29 #[.pointer (some ⟨hp, 0, none⟩), .int .i64 f] w' fun e w'' => ∃ A c, e = .returned (.slice A 8 c) ∧ SlU w'' A 8 (frameW 40 W0 (f : Int)) ∧ Chg [] w' w'' := by
                    intro w' hc
                    have h1 := Frame_at hp hb 40 d.s.W (f : Int) w' (hm.chg hc (by simp) (by simp))
                    rw [hout f (by omega), hfl] at h1
                    exact h1.mono fun _ _ ⟨A, c, e, y, hu, _, _⟩ => ⟨A, c, e, hu, y⟩
                  have hSm : ∀ (A1 : Option Addr) (c1 : Nat) w', SlU w' A1 8 (frameW 40 W0 (f : Int)) → Chg [] wr w' → Calls Try.prog 30 #[.slice A1 8 c1, .slice Ar 8 cr] w' fun e w'' => e = .returned (.bool true) ∧ Chg [] w' w'' := by
                    intro A1 c1 w' hu hc
                    have h1 := SameWords_any A1 Ar 8 8 c1 cr _ _ w' hu (hur.chg hc (by simp)) (by omega) (by omega)
                    rw [eqL_self] at h1
                    exact h1.mono fun _ _ ⟨e, qd, h2⟩ => ⟨e, by rw [h2]; exact (Chg.refl [] w').drewN qd⟩
                  clear hfl hm hur
                  have hwq : ∀ z, Chg [] wr z → z.cell? ⟨wb, 0, none⟩ = some (.pointer (some ⟨hp, 0, none⟩)) := fun z hz => (wdC_cells ((H.new hz).pick 2 rfl).blk).1
                  have g1 : decide ((f : Int) < 4) = false := by simp; omega
                  have g2 : decide ((f : Int) ≥ 12) = true := by simp; omega
                  refine wp_region_noPanic ?_
                  refine wp_region_held_drew (S := (fun w' => Chg [] wr w')) (by kernel_rfl) ?_ (fun hHeld => ?_)
                  · exact (Chg.refl [] wr).drew
                  (refine take_on 0 (some 60) (v := ?_) rfl rfl (by kernel_rfl) (by kernel_rfl) (by kernel_rfl) (fun _ _ _ h => h) (by rfl) (by assumption) ?_ ?_; rotate_left; · (intro w hSw; go_simp; (try with_reducible rfl)))
                  (try simp only [Act.put, List.setIfInBounds_toArray, List.set_cons_zero, List.set_cons_succ])
                  (refine take_on 1 (some 61) (v := ?_) rfl rfl (by kernel_rfl) (by kernel_rfl) (by kernel_rfl) (fun _ _ _ h => h) (by rfl) (by assumption) ?_ ?_; rotate_left; · (intro w hSw; go_simp; (try with_reducible rfl)))
                  (try simp only [Act.put, List.setIfInBounds_toArray, List.set_cons_zero, List.set_cons_succ])
                  (refine take_on 2 (some 62) (v := ?_) rfl rfl (by kernel_rfl) (by kernel_rfl) (by kernel_rfl) (fun _ _ _ h => h) (by rfl) (by assumption) ?_ ?_; rotate_left; · (intro w hSw; go_simp; (try with_reducible rfl)))
                  (try simp only [Act.put, List.setIfInBounds_toArray, List.set_cons_zero, List.set_cons_succ])
                  (refine take_on 3 (some 63) (v := ?_) rfl rfl (by kernel_rfl) (by kernel_rfl) (by kernel_rfl) (fun _ _ _ h => h) (by rfl) (by assumption) ?_ ?_; rotate_left; · (intro w hSw; go_simp; (try with_reducible rfl)))
                  (try simp only [Act.put, List.setIfInBounds_toArray, List.set_cons_zero, List.set_cons_succ])
                  (refine take_on 4 (some 64) (v := ?_) rfl rfl (by kernel_rfl) (by kernel_rfl) (by kernel_rfl) (fun _ _ _ h => h) (by rfl) (by assumption) ?_ ?_; rotate_left; · (intro w hSw; go_simp; (try with_reducible rfl)))
                  (try simp only [Act.put, List.setIfInBounds_toArray, List.set_cons_zero, List.set_cons_succ])
                  (refine take_on 5 (some 65) (v := ?_) rfl rfl (by kernel_rfl) (by kernel_rfl) (by kernel_rfl) (fun _ _ _ h => h) (by rfl) (by assumption) ?_ ?_; rotate_left; · (intro w hSw; go_simp; (try with_reducible rfl)))
                  (try simp only [Act.put, List.setIfInBounds_toArray, List.set_cons_zero, List.set_cons_succ])
                  (refine take_on 6 (some 66) (v := ?_) rfl rfl (by kernel_rfl) (by kernel_rfl) (by kernel_rfl) (fun _ _ _ h => h) (by rfl) (by assumption) ?_ ?_; rotate_left; · (intro w hSw; go_simp; (try with_reducible rfl)))
                  (try simp only [Act.put, List.setIfInBounds_toArray, List.set_cons_zero, List.set_cons_succ])
                  (refine take_on 7 (some 67) (v := ?_) rfl rfl (by kernel_rfl) (by kernel_rfl) (by kernel_rfl) (fun _ _ _ h => h) (by rfl) (by assumption) ?_ ?_; rotate_left; · (intro w hSw; go_simp; (try with_reducible rfl)))
                  (try simp only [Act.put, List.setIfInBounds_toArray, List.set_cons_zero, List.set_cons_succ])
                  (refine take_on 8 (some 68) (v := ?_) rfl rfl (by kernel_rfl) (by kernel_rfl) (by kernel_rfl) (fun _ _ _ h => h) (by rfl) (by assumption) ?_ ?_; rotate_left; · (intro w hSw; go_simp; (try with_reducible rfl)))
                  (try simp only [Act.put, List.setIfInBounds_toArray, List.set_cons_zero, List.set_cons_succ])
                  (refine take_on 9 (some 69) (v := ?_) rfl rfl (by kernel_rfl) (by kernel_rfl) (by kernel_rfl) (fun _ _ _ h => h) (by rfl) (by assumption) ?_ ?_; rotate_left; · (intro w hSw; go_simp; (try with_reducible rfl)))
                  (try simp only [Act.put, List.setIfInBounds_toArray, List.set_cons_zero, List.set_cons_succ])
                  (refine take_on 10 (some 70) (v := ?_) rfl rfl (by kernel_rfl) (by kernel_rfl) (by kernel_rfl) (fun _ _ _ h => h) (by rfl) (by assumption) ?_ ?_; rotate_left; · (intro w hSw; (try dsimp only at hSw); have d0 := (hSw.cell (p := ⟨g8, f, none⟩) hg8 (by simp)).trans hrow; have d1 := hwq _ hSw; go_simp; (try with_reducible rfl)))
                  (try simp only [Act.put, List.setIfInBounds_toArray, List.set_cons_zero, List.set_cons_succ])
                  (refine take_on 11 (some 71) (v := ?_) rfl rfl (by kernel_rfl) (by kernel_rfl) (by kernel_rfl) (fun _ _ _ h => h) (by rfl) (by assumption) ?_ ?_; rotate_left; · (intro w hSw; go_simp; (try with_reducible rfl)))
                  (try simp only [Act.put, List.setIfInBounds_toArray, List.set_cons_zero, List.set_cons_succ])
                  (refine take_on 13 (some 73) (v := ?_) rfl rfl (by kernel_rfl) (by kernel_rfl) (by kernel_rfl) (fun _ _ _ h => h) (by rfl) (by assumption) ?_ ?_; rotate_left; · (intro w hSw; go_simp; (try with_reducible rfl)))
                  (try simp only [Act.put, List.setIfInBounds_toArray, List.set_cons_zero, List.set_cons_succ])
                  (refine take_on 14 (some 74) (v := ?_) rfl rfl (by kernel_rfl) (by kernel_rfl) (by kernel_rfl) (fun _ _ _ h => h) (by rfl) (by assumption) ?_ ?_; rotate_left; · (intro w hSw; go_simp; (try with_reducible rfl)))
                  (try simp only [Act.put, List.setIfInBounds_toArray, List.set_cons_zero, List.set_cons_succ])
                  (refine take_on 15 (some 75) (v := ?_) rfl rfl (by kernel_rfl) (by kernel_rfl) (by kernel_rfl) (fun _ _ _ h => h) (by rfl) (by assumption) ?_ ?_; rotate_left; · (intro w hSw; (try dsimp only at hSw); have d0 := (hSw.cell (p := ⟨g8, f, none⟩) hg8 (by simp)).trans hrow; have d1 := hwq _ hSw; go_simp; (try with_reducible rfl)))
                  (try simp only [Act.put, List.setIfInBounds_toArray, List.set_cons_zero, List.set_cons_succ])
                  refine wpAnyH_ready (rs := [12]) (by kernel_rfl) (by simp) ?_; refine AllReadyH.cons (o := _) rfl (fun K hK => ?_) AllReadyH.nil
                  go_simp
                  go_at_call 29; refine (hFr _ hHeld).mono ?_; rintro e_0 w_0 ⟨A1, c1, rfl, hu1, y0⟩; first | exact hx_ | skip
                  refine hK.out _ _ (by (try dsimp only); exact hHeld.trans y0 (by simp)) (fun hHeld => ?_)
                  clear hK K
                  (try simp only [Act.put, List.setIfInBounds_toArray, List.set_cons_zero, List.set_cons_succ])
                  refine wpAnyH_ready (rs := [16]) (by kernel_rfl) (by simp) ?_; refine AllReadyH.cons (o := _) rfl (fun K hK => ?_) AllReadyH.nil
                  go_simp
                  go_at_call 30; refine (hSm A1 c1 _ hu1 hHeld).mono ?_; rintro e_1 w_1 ⟨rfl, y1⟩; first | exact hx_ | skip
                  refine hK.out _ _ (by (try dsimp only); exact hHeld.trans y1 (by simp)) (fun hHeld => ?_)
                  clear hK K
                  (try simp only [Act.put, List.setIfInBounds_toArray, List.set_cons_zero, List.set_cons_succ])
                  (refine take_on 17 (some 77) (v := ?_) rfl rfl (by kernel_rfl) (by kernel_rfl) (by kernel_rfl) (fun _ _ _ h => h) (by rfl) (by assumption) ?_ ?_; rotate_left; · (intro w hSw; go_simp; (try with_reducible rfl)))
                  (try simp only [Act.put, List.setIfInBounds_toArray, List.set_cons_zero, List.set_cons_succ])
                  (refine take_on 18 (some 78) (v := ?_) rfl rfl (by kernel_rfl) (by kernel_rfl) (by kernel_rfl) (fun _ _ _ h => h) (by rfl) (by assumption) ?_ ?_; rotate_left; · (intro w hSw; go_simp; (try with_reducible rfl)))
                  (try simp only [Act.put, List.setIfInBounds_toArray, List.set_cons_zero, List.set_cons_succ])
                  refine wpAnyH_done (by kernel_rfl) ?_ _
                  refine NoPanic.normal ?_
                  have H5 := H.new hHeld
                  clear H
                  go_wp2_with fail
                  go_roundw
                  case rel => exact ⟨f + 1, by omega, by go_num, H5⟩
                  case measure => simp [intOf]; omega
                · have g1 : decide ((f : Int) < 4) = false := by simp; omega
                  have g2 : decide ((f : Int) ≥ 12) = false := by simp; omega
                  refine wp_region_noPanic ?_
                  refine wp_region_held_drew (S := (fun w' => Chg [] wr w')) (by kernel_rfl) ?_ (fun hHeld => ?_)
                  · exact (Chg.refl [] wr).drew
                  (refine take_on 0 (some 60) (v := ?_) rfl rfl (by kernel_rfl) (by kernel_rfl) (by kernel_rfl) (fun _ _ _ h => h) (by rfl) (by assumption) ?_ ?_; rotate_left; · (intro w hSw; go_simp; (try with_reducible rfl)))
                  (try simp only [Act.put, List.setIfInBounds_toArray, List.set_cons_zero, List.set_cons_succ])
                  (refine take_on 1 (some 61) (v := ?_) rfl rfl (by kernel_rfl) (by kernel_rfl) (by kernel_rfl) (fun _ _ _ h => h) (by rfl) (by assumption) ?_ ?_; rotate_left; · (intro w hSw; go_simp; (try with_reducible rfl)))
                  (try simp only [Act.put, List.setIfInBounds_toArray, List.set_cons_zero, List.set_cons_succ])
                  (refine take_on 2 (some 62) (v := ?_) rfl rfl (by kernel_rfl) (by kernel_rfl) (by kernel_rfl) (fun _ _ _ h => h) (by rfl) (by assumption) ?_ ?_; rotate_left; · (intro w hSw; go_simp; (try with_reducible rfl)))
                  (try simp only [Act.put, List.setIfInBounds_toArray, List.set_cons_zero, List.set_cons_succ])
                  (refine take_on 3 (some 63) (v := ?_) rfl rfl (by kernel_rfl) (by kernel_rfl) (by kernel_rfl) (fun _ _ _ h => h) (by rfl) (by assumption) ?_ ?_; rotate_left; · (intro w hSw; go_simp; (try with_reducible rfl)))
                  (try simp only [Act.put, List.setIfInBounds_toArray, List.set_cons_zero, List.set_cons_succ])
                  (refine take_on 4 (some 64) (v := ?_) rfl rfl (by kernel_rfl) (by kernel_rfl) (by kernel_rfl) (fun _ _ _ h => h) (by rfl) (by assumption) ?_ ?_; rotate_left; · (intro w hSw; go_simp; (try with_reducible rfl)))
                  (try simp only [Act.put, List.setIfInBounds_toArray, List.set_cons_zero, List.set_cons_succ])
                  (refine take_on 5 (some 65) (v := ?_) rfl rfl (by kernel_rfl) (by kernel_rfl) (by kernel_rfl) (fun _ _ _ h => h) (by rfl) (by assumption) ?_ ?_; rotate_left; · (intro w hSw; go_simp; (try with_reducible rfl)))
                  (try simp only [Act.put, List.setIfInBounds_toArray, List.set_cons_zero, List.set_cons_succ])
                  (refine take_on 6 (some 66) (v := ?_) rfl rfl (by kernel_rfl) (by kernel_rfl) (by kernel_rfl) (fun _ _ _ h => h) (by rfl) (by assumption) ?_ ?_; rotate_left; · (intro w hSw; go_simp; (try with_reducible rfl)))
                  (try simp only [Act.put, List.setIfInBounds_toArray, List.set_cons_zero, List.set_cons_succ])
                  (refine take_off 7 (some 67) rfl rfl (by kernel_rfl) (by kernel_rfl) (by kernel_rfl) (fun _ _ _ h => h) (by rfl) (by assumption) ?_)
                  (try simp only [Act.put, List.setIfInBounds_toArray, List.set_cons_zero, List.set_cons_succ])
                  (refine take_off 8 (some 68) rfl rfl (by kernel_rfl) (by kernel_rfl) (by kernel_rfl) (fun _ _ _ h => h) (by rfl) (by assumption) ?_)
                  (try simp only [Act.put, List.setIfInBounds_toArray, List.set_cons_zero, List.set_cons_succ])
                  (refine take_off 9 (some 69) rfl rfl (by kernel_rfl) (by kernel_rfl) (by kernel_rfl) (fun _ _ _ h => h) (by rfl) (by assumption) ?_)
                  (try simp only [Act.put, List.setIfInBounds_toArray, List.set_cons_zero, List.set_cons_succ])
                  (refine take_off 10 (some 70) rfl rfl (by kernel_rfl) (by kernel_rfl) (by kernel_rfl) (fun _ _ _ h => h) (by rfl) (by assumption) ?_)
                  (try simp only [Act.put, List.setIfInBounds_toArray, List.set_cons_zero, List.set_cons_succ])
                  (refine take_off 11 (some 71) rfl rfl (by kernel_rfl) (by kernel_rfl) (by kernel_rfl) (fun _ _ _ h => h) (by rfl) (by assumption) ?_)
                  (try simp only [Act.put, List.setIfInBounds_toArray, List.set_cons_zero, List.set_cons_succ])
                  (refine take_off 12 (some 72) rfl rfl (by kernel_rfl) (by kernel_rfl) (by kernel_rfl) (fun _ _ _ h => h) (by rfl) (by assumption) ?_)
                  (try simp only [Act.put, List.setIfInBounds_toArray, List.set_cons_zero, List.set_cons_succ])
                  (refine take_off 13 (some 73) rfl rfl (by kernel_rfl) (by kernel_rfl) (by kernel_rfl) (fun _ _ _ h => h) (by rfl) (by assumption) ?_)
                  (try simp only [Act.put, List.setIfInBounds_toArray, List.set_cons_zero, List.set_cons_succ])
                  (refine take_off 14 (some 74) rfl rfl (by kernel_rfl) (by kernel_rfl) (by kernel_rfl) (fun _ _ _ h => h) (by rfl) (by assumption) ?_)
                  (try simp only [Act.put, List.setIfInBounds_toArray, List.set_cons_zero, List.set_cons_succ])
                  (refine take_off 15 (some 75) rfl rfl (by kernel_rfl) (by kernel_rfl) (by kernel_rfl) (fun _ _ _ h => h) (by rfl) (by assumption) ?_)
                  (try simp only [Act.put, List.setIfInBounds_toArray, List.set_cons_zero, List.set_cons_succ])
                  (refine take_off 16 (some 76) rfl rfl (by kernel_rfl) (by kernel_rfl) (by kernel_rfl) (fun _ _ _ h => h) (by rfl) (by assumption) ?_)
                  (try simp only [Act.put, List.setIfInBounds_toArray, List.set_cons_zero, List.set_cons_succ])
                  (refine take_off 17 (some 77) rfl rfl (by kernel_rfl) (by kernel_rfl) (by kernel_rfl) (fun _ _ _ h => h) (by rfl) (by assumption) ?_)
                  (try simp only [Act.put, List.setIfInBounds_toArray, List.set_cons_zero, List.set_cons_succ])
                  (refine take_on 18 (some 78) (v := ?_) rfl rfl (by kernel_rfl) (by kernel_rfl) (by kernel_rfl) (fun _ _ _ h => h) (by rfl) (by assumption) ?_ ?_; rotate_left; · (intro w hSw; go_simp; (try with_reducible rfl)))
                  (try simp only [Act.put, List.setIfInBounds_toArray, List.set_cons_zero, List.set_cons_succ])
                  refine wpAnyH_done (by kernel_rfl) ?_ _
                  refine NoPanic.normal ?_
                  have H5 := H.new hHeld
                  clear H
                  go_wp2_with fail
                  go_roundw
                  case rel => exact ⟨f + 1, by omega, by go_num, H5⟩
                  case measure => simp [intOf]; omega
            · have ef : f = 40 := by omega
              subst ef
              have hfz : ¬ ((40 : Nat) : Int) < 40 := by omega
              go_wp2_with fail
              go_ret
              exact ⟨rfl, H.1⟩

end Go.Proofs.Ytgjfidjhbkaobaa
