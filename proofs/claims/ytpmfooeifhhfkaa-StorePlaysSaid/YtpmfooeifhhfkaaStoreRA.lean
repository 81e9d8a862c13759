/-
  The document's store, as it lies; the contract of its at.
-/
import Derived.Test.YtpmfooeifhhfkaaStoreW
namespace Go.Proofs.Ytpmfooeifhhfkaa
open Go.RowKit Go.Maps

/-- a page of the document's: its frame, its key, where its slots lie -/
abbrev RP := Int × Ky × Option Addr × Nat
def rpE : Enc RP := ⟨fun x => [.int .i64 x.1, .int .i64 x.2.1.g, .int .i64 x.2.1.lev, .int .i64 x.2.1.role, .slice x.2.2.1 8 x.2.2.2], 5, by decide, fun _ => rfl, fun x u hu => by
  simp only [List.mem_cons, List.not_mem_nil, or_false] at hu
  rcases hu with rfl | rfl | rfl | rfl | rfl <;> rfl⟩
def rowsR (L : List Pg) (R : List (Option Addr × Nat)) : List RP := List.zipWith (fun q r => (q.f, q.k, r)) L R
theorem rowsR_at {L : List Pg} {R : List (Option Addr × Nat)} {j : Nat} {q : Pg} {r : Option Addr × Nat} (hq : L[j]? = some q) (hr : R[j]? = some r) : (rowsR L R)[j]? = some (q.f, q.k, r) := by
  unfold rowsR; rw [List.getElem?_zipWith, hq, hr]
/-- the document's store, as it lies -/
structure RStX (w : World) (q rp rb fp n a m : Nat) (s : Sr) (LA : Option Addr) (lc : Nat) (R : List (Option Addr × Nat)) (FS : List Nat) : Prop where
  st : Blk w q 95 #[.pointer (some ⟨rp, 0, none⟩), .pointer (some ⟨fp, 0, none⟩), .slice LA s.L.length lc]
  hm : RMemAt w rp rb n s.W
  hf : RAt w FS fp a m s.fr
  hl : OwnG rpE w 104 (.slice LA s.L.length lc) (rowsR s.L R)
  len : R.length = s.L.length
  hs : ∀ (j : Nat) (q : Pg) (r : Option Addr × Nat), s.L[j]? = some q → R[j]? = some r → OwnG sltE w 45 (.slice r.1 8 r.2) q.s
section
variable {w w' : World} {q rp rb fp n a m : Nat} {s : Sr} {LA : Option Addr} {lc : Nat} {R : List (Option Addr × Nat)} {FS : List Nat}
theorem RStX.new (h : RStX w q rp rb fp n a m s LA lc R FS) (y : Chg [] w w') : RStX w' q rp rb fp n a m s LA lc R FS :=
  ⟨h.st.chg_ y (by simp), h.hm.chg y (by simp) (by simp), h.hf.chg y (by simp), h.hl.new y, h.len, fun j q r hq hr => (h.hs j q r hq hr).new y⟩
/-- the cells of a page -/
theorem RStX.page (h : RStX w q rp rb fp n a m s LA lc R FS) {j : Nat} (hj : j < s.L.length) : ∃ (b off : Nat) (p : Pg) (r : Option Addr × Nat), LA = some ⟨b, off, none⟩ ∧ s.L[j]? = some p ∧ R[j]? = some r ∧
    w.cell? ⟨b, off + j * 5, none⟩ = some (.int .i64 p.f) ∧ w.cell? ⟨b, off + j * 5 + 1, none⟩ = some (.int .i64 p.k.g) ∧ w.cell? ⟨b, off + j * 5 + 2, none⟩ = some (.int .i64 p.k.lev) ∧ w.cell? ⟨b, off + j * 5 + 3, none⟩ = some (.int .i64 p.k.role) ∧ w.cell? ⟨b, off + j * 5 + 4, none⟩ = some (.slice r.1 8 r.2) := by
  obtain ⟨b, off, x, e, _, hx, hat⟩ := h.hl.slg.get hj
  have hr := List.getElem?_eq_getElem (show j < R.length by rw [h.len]; exact hj)
  have hq := List.getElem?_eq_getElem hj
  rw [rowsR_at hq hr] at hx
  cases hx
  exact ⟨b, off, _, _, e, hq, hr, hat 0 _ rfl, hat 1 _ rfl, hat 2 _ rfl, hat 3 _ rfl, hat 4 _ rfl⟩
end
/-- where a page is; below 0: nowhere -/
def atI (L : List Pg) (p : Int) : Int := match L.findIdx? fun q => q.f == p with
  | some j => (j : Int)
  | none => -1
theorem atI_yes {L : List Pg} {p : Int} {j : Nat} {q : Pg} (hq : L[j]? = some q) (hf : q.f = p) (hn : ∀ i q', i < j → L[i]? = some q' → q'.f ≠ p) : atI L p = (j : Int) := by
  unfold atI
  have : L.findIdx? (fun q => q.f == p) = some j := by
    rw [List.findIdx?_eq_some_iff_getElem]
    obtain ⟨hj, e⟩ := List.getElem?_eq_some_iff.1 hq
    refine ⟨hj, by rw [e]; simpa using hf, fun i hi => ?_⟩
    have := hn i _ hi (List.getElem?_eq_getElem (by omega))
    simpa using this
  rw [this]
theorem atI_no {L : List Pg} {p : Int} (hn : ∀ i q', i < L.length → L[i]? = some q' → q'.f ≠ p) : atI L p = -1 := by
  unfold atI
  have : L.findIdx? (fun q => q.f == p) = none := by
    rw [List.findIdx?_eq_none_iff]
    intro q hq
    obtain ⟨i, hi, rfl⟩ := List.getElem_of_mem hq
    have := hn i _ hi (List.getElem?_eq_getElem hi)
    simpa using this
  rw [this]

set_option maxRecDepth 100000 in
set_option maxHeartbeats 2000000 in
theorem Rat_any {q rp rb fp n a m : Nat} {s : Sr} {LA : Option Addr} {lc : Nat} {R : List (Option Addr × Nat)} {FS : List Nat} (p : Int) (w : World) (h : RStX w q rp rb fp n a m s LA lc R FS) (hN : s.L.length ≤ 256) :
    Calls Try.prog 56 #[.pointer (some ⟨q, 0, none⟩), .int .i64 p] w fun e w' => e = .returned (.int .i64 (atI s.L p)) ∧ Chg [] w w' := by
  have q2 := h.st.cell 2
  simp only [List.getElem?_toArray, List.getElem?_cons_zero, List.getElem?_cons_succ] at q2
  have hpg := fun j hj => h.page (j := j) hj
  have hy := fun (j : Nat) (q' : Pg) => atI_yes (L := s.L) (p := p) (j := j) (q := q')
  have hno := atI_no (L := s.L) (p := p)
  clear h
  generalize atI s.L p = T at *
  generalize hLL : s.L = LL at *
  obtain ⟨N, hNN⟩ : ∃ N, LL.length = N := ⟨_, rfl⟩
  rw [hNN] at q2 hpg hno hN
  clear hNN hLL
  go_enter Try.func56, Try.ntmps56
  go_wp2_with fail
  go_loopw [5] (fun s5 wr => ∃ j : Nat, j ≤ N ∧ s5 = .int .i64 j ∧ w = wr ∧ ∀ i q', i < j → LL[i]? = some q' → q'.f ≠ p) (fun s5 _ => N - (intOf s5).toNat)
  case atStart => exact ⟨0, by omega, rfl, rfl, fun i _ hi => by omega⟩
  case round =>
    obtain ⟨j, hj, rfl, rfl, hn⟩ := hrel
    by_cases hlt : j < N
    · have hjz : (j : Int) < (N : Int) := by omega
      obtain ⟨b, off, pg, r, rfl, hq, _, d0, _, _, _, _⟩ := hpg j hlt
      have hyj := hy j pg hq
      by_cases hf : pg.f = p
      · have hfb : (pg.f == p) = true := by simpa using hf
        have hT := Lib.hid (hyj hf hn)
        clear hyj
        replace hf := Lib.hid hf
        go_wp2_with fail
        go_ret
        exact ⟨by rw [hT.out]; rfl, Chg.refl _ _⟩
      · have hfb : (pg.f == p) = false := by simpa using hf
        have hn2 : ∀ i q', i < j + 1 → LL[i]? = some q' → q'.f ≠ p := fun i q' hi hq' => by
          by_cases e : i = j
          · subst e; rw [hq] at hq'; cases hq'; exact hf
          · exact hn i q' (by omega) hq'
        replace hf := Lib.hid hf
        clear hyj hq
        go_wp2_with fail
        go_roundw
        case rel => exact ⟨j + 1, by omega, by go_num, trivial, hn2⟩
        case measure => simp [intOf]; omega
    · obtain rfl : j = N := by omega
      have hjz : ¬ (j : Int) < (j : Int) := by omega
      have hT := Lib.hid (hno hn)
      go_wp2_with fail
      go_ret
      exact ⟨by rw [hT.out]; rfl, Chg.refl _ _⟩

end Go.Proofs.Ytpmfooeifhhfkaa
