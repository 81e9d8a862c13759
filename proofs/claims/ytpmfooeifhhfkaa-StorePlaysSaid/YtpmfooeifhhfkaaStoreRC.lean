/-
  The document's store: Find.
-/
import Derived.Test.YtpmfooeifhhfkaaStoreRB
namespace Go.Proofs.Ytpmfooeifhhfkaa
open Go.RowKit Go.Maps
theorem pgOf_yes {L : List Pg} {k : Ky} {j : Nat} {q : Pg} (hq : L[j]? = some q) (hf : q.k = k) (hn : ∀ i q', i < j → L[i]? = some q' → q'.k ≠ k) : pgOf L k = some q := by
  unfold pgOf
  obtain ⟨hj, e⟩ := List.getElem?_eq_some_iff.1 hq
  rw [List.find?_eq_some_iff_getElem]
  refine ⟨by simpa using hf, j, hj, e, fun i hi => ?_⟩
  have := hn i _ hi (List.getElem?_eq_getElem (by omega))
  simpa using this
theorem pgOf_noR {L : List Pg} {k : Ky} (hn : ∀ i q', i < L.length → L[i]? = some q' → q'.k ≠ k) : pgOf L k = none := by
  rw [pgOf_none]
  intro q hq
  obtain ⟨i, hi, rfl⟩ := List.getElem_of_mem hq
  exact hn i _ hi (List.getElem?_eq_getElem hi)
section
variable {q rp rb fp n a m : Nat} {s : Sr} {LA : Option Addr} {lc : Nat} {R : List (Option Addr × Nat)} {FS : List Nat}
set_option maxRecDepth 100000 in
set_option maxHeartbeats 2000000 in
theorem RFind_any (k : Ky) (w : World) (h0 : RStX w q rp rb fp n a m s LA lc R FS) (hN : s.L.length ≤ 256) :
    Calls Try.prog 18 #[.pointer (some ⟨q, 0, none⟩), .agg k.cs] w fun e w' => e = .returned (.tuple #[.int .i64 (findV s.L k), .bool (pgOf s.L k).isSome]) ∧ Chg [] w w' := by
  have y0 := (Chg.refl [] w).alloc (.cells k.cs 24)
  have bk0 := Blk.new w 24 k.cs
  have h := h0.new y0
  clear h0
  unfold findV
  have hy := fun (j : Nat) (q' : Pg) => pgOf_yes (L := s.L) (k := k) (j := j) (q := q')
  have hno := pgOf_noR (L := s.L) (k := k)
  have hrun := fun b => run_eqKy b k
  obtain ⟨kg, kl, kr⟩ := k
  simp only [Ky.cs] at y0 bk0 h hrun ⊢
  generalize pgOf s.L ⟨kg, kl, kr⟩ = T at *
  go_enter Try.func18, Try.ntmps18
  go_wp2_with fail
  generalize w.alloc (.cells #[.int .i64 kg, .int .i64 kl, .int .i64 kr] 24) = w1 at *
  generalize w.heap.size = kb at *
  go_loopw [6] (fun s6 wr => ∃ j : Nat, j ≤ s.L.length ∧ s6 = .int .i64 j ∧ Chg [] w wr ∧ Blk wr kb 24 #[.int .i64 kg, .int .i64 kl, .int .i64 kr] ∧ RStX wr q rp rb fp n a m s LA lc R FS ∧ ∀ i q', i < j → s.L[i]? = some q' → q'.k ≠ ⟨kg, kl, kr⟩) (fun s6 _ => s.L.length - (intOf s6).toNat)
  case atStart => exact ⟨0, by omega, rfl, y0, bk0, h, fun i _ hi => by omega⟩
  case round =>
    obtain ⟨j, hj, rfl, y, bk, hr, hn⟩ := hrel
    clear h y0 bk0
    have q2 := hr.st.cell 2
    simp only [List.getElem?_toArray, List.getElem?_cons_zero, List.getElem?_cons_succ] at q2
    have x0 := bk.cell 0; have x1 := bk.cell 1; have x2 := bk.cell 2
    simp only [List.getElem?_toArray, List.getElem?_cons_zero, List.getElem?_cons_succ] at x0 x1 x2
    by_cases hlt : j < s.L.length
    · have hjz : (j : Int) < (s.L.length : Int) := by omega
      obtain ⟨b, off, pg, r, rfl, hq, _, d0, d1, d2, d3, _⟩ := hr.page hlt
      have hru := hrun pg.k
      have hyj := hy j pg hq
      by_cases hf : pg.k = ⟨kg, kl, kr⟩
      · have hT := Lib.hid (hyj hf hn)
        rw [decide_eq_true hf] at hru
        replace hf := Lib.hid hf
        clear hyj hno hy hrun
        go_wp2_with fail
        go_region
        have q2 := (hr.st.drew).cell 2
        simp only [List.getElem?_toArray, List.getElem?_cons_zero, List.getElem?_cons_succ] at q2
        go_wp2_with fail
        go_ret2
        exact ⟨by rw [hT.out]; rfl, y.drew⟩
      · have hn2 : ∀ i q', i < j + 1 → s.L[i]? = some q' → q'.k ≠ ⟨kg, kl, kr⟩ := fun i q' hi hq' => by
          by_cases e : i = j
          · subst e; rw [hq] at hq'; cases hq'; exact hf
          · exact hn i q' (by omega) hq'
        rw [decide_eq_false hf] at hru
        replace hf := Lib.hid hf
        clear hyj hq hno hy hrun
        go_wp2_with fail
        go_region
        go_wp2_with fail
        go_roundw
        case rel => exact ⟨j + 1, by omega, by go_num, y.drew, bk.drew, hr.new (Chg.refl [] wr).drew, hn2⟩
        case measure => simp [intOf]; omega
    · obtain rfl : j = s.L.length := by omega
      have hjz : ¬ (s.L.length : Int) < (s.L.length : Int) := by omega
      have hT := Lib.hid (hno hn)
      clear hno hy hrun
      go_wp2_with fail
      go_ret2
      exact ⟨by rw [hT.out]; rfl, y⟩
end

end Go.Proofs.Ytpmfooeifhhfkaa
