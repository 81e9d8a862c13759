/-
  The document's store: Of.
-/
import Derived.Test.YtpmfooeifhhfkaaStoreRD
namespace Go.Proofs.Ytpmfooeifhhfkaa
open Go.RowKit Go.Maps
section
variable {q rp rb fp n a m : Nat} {s : Sr} {LA : Option Addr} {lc : Nat} {R : List (Option Addr × Nat)} {FS : List Nat}
set_option maxRecDepth 100000 in
set_option maxHeartbeats 2000000 in
theorem ROf14_any (g : Int) (w : World) (h : RStX w q rp rb fp n a m s LA lc R FS) (hN : s.L.length ≤ 256) :
    Calls Try.prog 29 #[.pointer (some ⟨q, 0, none⟩), .int .i64 g] w (NumP (ofP s.L g) w) := by
  obtain ⟨K, hK0, hKe, hKl, hKs⟩ : ∃ K : Nat → List Int, K 0 = [] ∧ K s.L.length = ofP s.L g ∧ (∀ j, (K j).length ≤ 256) ∧ ∀ (j : Nat) (p : Pg), s.L[j]? = some p → K (j + 1) = K j ++ if p.k.role = 0 ∧ p.k.g = g then [p.f] else [] := by
    refine ⟨fun j => ofP (s.L.take j) g, rfl, by simp only [List.take_length], fun j => ?_, fun j p hp => ?_⟩
    · have := ofP_len (s.L.take j) g; rw [List.length_take] at this; show (ofP (s.L.take j) g).length ≤ 256; omega
    · show ofP (s.L.take (j + 1)) g = ofP (s.L.take j) g ++ _
      rw [List.take_add_one, hp]
      unfold ofP
      rw [List.filter_append, List.map_append]
      congr 1
      by_cases hc : p.k.role = 0 ∧ p.k.g = g
      · rw [if_pos hc]; simp [hc]
      · rw [if_neg hc]; simp [hc]
  replace hK0 := Lib.hid hK0; replace hKe := Lib.hid hKe
  go_enter Try.func29, Try.ntmps29
  go_wp2_with fail
  go_loopw [5, 6] (fun s5 s6 wr => ∃ (j : Nat) (A : Option Addr) (c : Nat), j ≤ s.L.length ∧ s6 = .int .i64 j ∧ s5 = .slice A (K j).length c ∧ LG (numE .i64) w wr 3 (.slice A (K j).length c) (K j)) (fun _ s6 _ => s.L.length - (intOf s6).toNat)
  case atStart => exact ⟨0, none, 0, by omega, rfl, by rw [hK0.out]; rfl, by rw [hK0.out]; exact LG.none_ w 3⟩
  case round =>
    obtain ⟨j, A, c, hj, rfl, rfl, lg⟩ := hrel
    have hr := h.new lg.1
    have q2 := hr.st.cell 2
    simp only [List.getElem?_toArray, List.getElem?_cons_zero, List.getElem?_cons_succ] at q2
    by_cases hlt : j < s.L.length
    · have hjz : (j : Int) < (s.L.length : Int) := by omega
      obtain ⟨b, off, pg, r, rfl, hq, _, d0, d1, d2, d3, _⟩ := hr.page hlt
      have hs := hKs j pg hq
      have hjl := hKl j
      clear hr hq hKs
      obtain ⟨pf, ⟨kg, kl, kr⟩, ps⟩ := pg
      simp only at d0 d1 d2 d3 hs
      by_cases h1 : kr = 0
      · by_cases h2 : kg = g
        · rw [if_pos ⟨h1, h2⟩] at hs
          have b1 : (kr == 0) = true := by simpa using h1
          have b2 : (kg == g) = true := by simpa using h2
          replace h1 := Lib.hid h1; replace h2 := Lib.hid h2; replace hs := Lib.hid hs
          have k4 := ((Chg.refl [] wr).alloc (.cells #[.int .i64 pf] 3))
          have lg4 := lg.new k4
          have hsrc4 : Src (wr.alloc (.cells #[.int .i64 pf] 3)) (numE .i64).k (some ⟨wr.heap.size, 0, none⟩) 1 1 ((numE .i64).all [pf]) := (OwnG.lit (E := numE .i64) (L := [pf]) (Blk.new wr 3 #[.int .i64 pf]) (by simp)).src
          go_wp2_with (at_builtin; (refine wpList_append_G (E := numE .i64) rfl _ _ 50 rfl 3 (.int .i64 0) 8 Try.underlying50 Int_info rfl (.slice A (K j).length c) (K j) rfl lg4.2.1 (some ⟨wr.heap.size, 0, none⟩) 1 1 [pf] rfl hsrc4 rfl (by omega) ?_); (intro v5 w5 ho5 hc5 hb5); (have lg5 := lg4.app ho5 hc5 hb5); (obtain ⟨A5, c5, rfl, _, _⟩ := ho5.form); (rw [← hs.out] at lg5); (rw [← hs.out]))
          go_roundw
          case rel => exact ⟨j + 1, A5, c5, by omega, by go_num, rfl, lg5⟩
          case measure => simp [intOf]; omega
        · rw [if_neg (fun e => h2 e.2), List.append_nil] at hs
          have b1 : (kr == 0) = true := by simpa using h1
          have b2 : (kg == g) = false := by simpa using h2
          replace h1 := Lib.hid h1; replace h2 := Lib.hid h2; replace hs := Lib.hid hs
          go_wp2_with fail
          go_roundw
          case rel => exact ⟨j + 1, A, c, by omega, by go_num, by rw [hs.out], by rw [hs.out]; exact lg⟩
          case measure => simp [intOf]; omega
      · rw [if_neg (fun e => h1 e.1), List.append_nil] at hs
        have b1 : (kr == 0) = false := by simpa using h1
        replace h1 := Lib.hid h1; replace hs := Lib.hid hs
        go_wp2_with fail
        go_roundw
        case rel => exact ⟨j + 1, A, c, by omega, by go_num, by rw [hs.out], by rw [hs.out]; exact lg⟩
        case measure => simp [intOf]; omega
    · obtain rfl : j = s.L.length := by omega
      have hjz : ¬ (s.L.length : Int) < (s.L.length : Int) := by omega
      go_wp2_with fail
      go_ret
      rw [hKe.out] at lg
      exact ⟨A, c, by rw [hKe.out]; rfl, lg.2.1, lg.2.2, lg.1⟩
end

end Go.Proofs.Ytpmfooeifhhfkaa
