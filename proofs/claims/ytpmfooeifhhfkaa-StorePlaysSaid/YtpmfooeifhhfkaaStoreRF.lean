/-
  The document's store: told.
-/
import Derived.Test.YtpmfooeifhhfkaaStoreRE
namespace Go.Proofs.Ytpmfooeifhhfkaa
open Go.RowKit Go.Maps
section
variable {q rp rb fp n a m : Nat} {s : Sr} {LA : Option Addr} {lc : Nat} {R : List (Option Addr × Nat)} {FS : List Nat}
set_option maxRecDepth 100000 in
set_option maxHeartbeats 4000000 in
theorem Rtold_any (kind to_ : Int) (w : World) (h : RStX w q rp rb fp n a m s LA lc R FS) (hok : SrOk n a m s) :
    Calls Try.prog 64 #[.pointer (some ⟨q, 0, none⟩), .int .i64 kind, .int .i64 to_] w (LnkP (toldP kind to_ s.L) w) := by
  obtain ⟨K, hK0, hKe, hKl, hKs⟩ := hok.lnkN kind to_
  have hN := hok.le256
  have h8 := fun j i (hi : i < 8) q_ (hq : s.L[j]? = some q_) => hok.slotAt (j := j) hi hq
  clear hok
  replace hK0 := Lib.hid hK0; replace hKe := Lib.hid hKe; replace hKs := Lib.hid hKs
  go_enter Try.func64, Try.ntmps64
  go_wp2_with fail
  go_loopw [7, 8] (fun s7 s8 wr => ∃ (j : Nat) (A : Option Addr) (c : Nat), j ≤ s.L.length ∧ s8 = .int .i64 j ∧ s7 = .slice A (K (8 * j)).length c ∧ LG atE w wr 70 (.slice A (K (8 * j)).length c) (K (8 * j))) (fun _ s8 _ => s.L.length - (intOf s8).toNat)
  case atStart => exact ⟨0, none, 0, by omega, rfl, by rw [Nat.mul_zero, hK0.out]; rfl, by rw [Nat.mul_zero, hK0.out]; exact LG.none_ w _⟩
  case round =>
    obtain ⟨j, A, c, hj, rfl, rfl, lg⟩ := hrel
    have hr0 := h.new lg.1
    have q2 := hr0.st.cell 2
    simp only [List.getElem?_toArray, List.getElem?_cons_zero, List.getElem?_cons_succ] at q2
    by_cases hlt : j < s.L.length
    · have hjz : (j : Int) < (s.L.length : Int) := by omega
      obtain ⟨b, off, pg0, r0, rfl, hq0, _⟩ := hr0.page hlt
      clear hr0
      go_wp2_with fail
      clear q2
      go_loopw [7, 9] (fun s7 s9 wr => ∃ (i : Nat) (A : Option Addr) (c : Nat), i ≤ 8 ∧ s9 = .int .i64 i ∧ s7 = .slice A (K (8 * j + i)).length c ∧ LG atE w wr 70 (.slice A (K (8 * j + i)).length c) (K (8 * j + i))) (fun _ s9 _ => 8 - (intOf s9).toNat)
      case atStart => exact ⟨0, A, c, by omega, rfl, rfl, lg⟩
      case round =>
        obtain ⟨i, A, c, hi, rfl, rfl, lg2⟩ := hrel
        clear lg
        have hr := h.new lg2.1
        by_cases hi8 : i < 8
        · have hiz : (i : Int) < 8 := by omega
          have q2 := hr.st.cell 2
          simp only [List.getElem?_toArray, List.getElem?_cons_zero, List.getElem?_cons_succ] at q2
          obtain ⟨b', off', pg, ⟨rA, rc⟩, e, hq, hrr, d0, _, _, _, d4⟩ := hr.page hlt
          cases e
          obtain ⟨x, hx, _⟩ := h8 j i hi8 pg hq
          have hs := hKs.out j i pg x hq hi8 hx
          have hss := hr.hs j pg (rA, rc) hq hrr
          obtain ⟨b8, o8, x8, hrA, _, hx8, hc8⟩ := hss.slg.get hi8
          simp only at hrA d4
          subst hrA
          rw [hx] at hx8; cases hx8
          obtain ⟨t0, t1, _, _, _⟩ := sltAt5 hc8
          simp only [show sltE.k = 5 from rfl] at t0 t1
          have hjl := hKl (8 * j + i)
          clear hr hq hrr hx hss hc8 hq0
          generalize pg.f = pf at *
          obtain ⟨kd, tt, ⟨rw_, ru, rx⟩⟩ := x
          simp only at t0 t1 hs
          by_cases h1 : kd = kind
          · by_cases h2 : tt = to_
            · rw [if_pos ⟨h1, h2⟩] at hs
              have b1 : (kd == kind) = true := by simpa using h1
              have b2 : (tt == to_) = true := by simpa using h2
              replace h1 := Lib.hid h1; replace h2 := Lib.hid h2; replace hs := Lib.hid hs
              have k4 := ((Chg.refl [] wr).alloc (.cells #[.int .i64 pf, .int .i64 i] 70))
              have lg4 := lg2.new k4
              have hsrc4 : Src (wr.alloc (.cells #[.int .i64 pf, .int .i64 i] 70)) atE.k (some ⟨wr.heap.size, 0, none⟩) 1 1 (atE.all [(pf, (i : Int))]) := (OwnG.lit (E := atE) (L := [(pf, (i : Int))]) (Blk.new wr 70 #[.int .i64 pf, .int .i64 i]) (by simp)).src
              go_wp2_with (at_builtin; (refine wpList_append_G (E := atE) rfl _ _ 54 rfl 70 (.agg #[.int .i64 0, .int .i64 0]) 16 Try.underlying54 At_info rfl (.slice A (K (8 * j + i)).length c) (K (8 * j + i)) rfl lg4.2.1 (some ⟨wr.heap.size, 0, none⟩) 1 1 [(pf, (i : Int))] rfl hsrc4 rfl (by omega) ?_); (intro v5 w5 ho5 hc5 hb5); (have lg5 := lg4.app ho5 hc5 hb5); (obtain ⟨A5, c5, rfl, _, _⟩ := ho5.form); (rw [← hs.out] at lg5); (rw [← hs.out]))
              go_roundw
              case rel => exact ⟨i + 1, A5, c5, by omega, by go_num, rfl, lg5⟩
              case measure => simp [intOf]; omega
            · rw [if_neg (fun e => h2 e.2), List.append_nil] at hs
              have b1 : (kd == kind) = true := by simpa using h1
              have b2 : (tt == to_) = false := by simpa using h2
              replace h1 := Lib.hid h1; replace h2 := Lib.hid h2; replace hs := Lib.hid hs
              go_wp2_with fail
              go_roundw
              case rel => exact ⟨i + 1, A, c, by omega, by go_num, by rw [← Nat.add_assoc, hs.out], by rw [← Nat.add_assoc, hs.out]; exact lg2⟩
              case measure => simp [intOf]; omega
          · rw [if_neg (fun e => h1 e.1), List.append_nil] at hs
            have b1 : (kd == kind) = false := by simpa using h1
            replace h1 := Lib.hid h1; replace hs := Lib.hid hs
            go_wp2_with fail
            go_roundw
            case rel => exact ⟨i + 1, A, c, by omega, by go_num, by rw [← Nat.add_assoc, hs.out], by rw [← Nat.add_assoc, hs.out]; exact lg2⟩
            case measure => simp [intOf]; omega
        · obtain rfl : i = 8 := by omega
          have hiz : ¬ (8 : Int) < 8 := by omega
          go_wp2_with fail
          go_roundw
          case rel => exact ⟨j + 1, A, c, by omega, by go_num, rfl, lg2⟩
          case measure => simp [intOf]; omega
    · obtain rfl : j = s.L.length := by omega
      have hjz : ¬ (s.L.length : Int) < (s.L.length : Int) := by omega
      go_wp2_with fail
      go_ret
      rw [hKe.out] at lg
      exact ⟨A, c, by rw [hKe.out]; rfl, lg.2.1, lg.2.2, lg.1⟩
end

set_option maxHeartbeats 400000 in
theorem Rparents_any {q rp rb fp n a m : Nat} {s : Sr} {LA : Option Addr} {lc : Nat} {R : List (Option Addr × Nat)} {FS : List Nat} (p : Int) (w : World) (h : RStX w q rp rb fp n a m s LA lc R FS) (hok : SrOk n a m s) :
    Calls Try.prog 32 #[.pointer (some ⟨q, 0, none⟩), .int .i64 p] w (LnkP (toldP 1 p s.L) w) := by
  have hL := Rtold_any 1 p w h hok
  clear h hok
  generalize toldP 1 p s.L = T at *
  go_enter Try.func32, Try.ntmps32
  go_wp2_with fail
  refine hL.mono ?_; rintro e w2 ⟨A, c, rfl, ho, hg, y⟩
  go_wp2_with fail
  go_ret
  exact ⟨A, c, rfl, ho, hg, y⟩
set_option maxHeartbeats 400000 in
theorem Rleaves_any {q rp rb fp n a m : Nat} {s : Sr} {LA : Option Addr} {lc : Nat} {R : List (Option Addr × Nat)} {FS : List Nat} (p : Int) (w : World) (h : RStX w q rp rb fp n a m s LA lc R FS) (hok : SrOk n a m s) :
    Calls Try.prog 34 #[.pointer (some ⟨q, 0, none⟩), .int .i64 p] w (LnkP (toldP 2 p s.L) w) := by
  have hL := Rtold_any 2 p w h hok
  clear h hok
  generalize toldP 2 p s.L = T at *
  go_enter Try.func34, Try.ntmps34
  go_wp2_with fail
  refine hL.mono ?_; rintro e w2 ⟨A, c, rfl, ho, hg, y⟩
  go_wp2_with fail
  go_ret
  exact ⟨A, c, rfl, ho, hg, y⟩

end Go.Proofs.Ytpmfooeifhhfkaa
