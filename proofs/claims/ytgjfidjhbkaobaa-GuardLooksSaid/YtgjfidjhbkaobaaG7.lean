/-
  GuestP, GuestB in one text.
-/
import Derived.Test.YtgjfidjhbkaobaaG1
import Derived.Test.YtgjfidjhbkaobaaG3
namespace Go.Proofs.Ytgjfidjhbkaobaa
open Go.RowKit

/-- where a guest's word lies in its host's words -/
def posG (L : List Int) (k : Nat) : Nat := (L.getD (k / 8) 0).toNat * 8 + k % 8
/-- all words of a guest -/
def allG (W L : List Int) : List Int := (List.range (8 * L.length)).map fun k => W.getD (posG L k) 0
def hasG (n : Nat) (L : List Int) (g i : Int) : Bool := atB L.length g && hasW n (atV L g) i
def getG (n : Nat) (W L : List Int) (g i : Int) : Int := if atB L.length g then getW n W (atV L g) i else 0
def setG (n : Nat) (W L : List Int) (g i v : Int) : List Int := if atB L.length g then setW n W (atV L g) i v else W
/-- k frames of a guest are loaded -/
def loadTo (W L xs : List Int) : Nat → List Int
  | 0 => W
  | k + 1 => setAll (loadTo W L xs k) ((L.getD k 0).toNat * 8) ((xs.drop (8 * k)).take 8)
def loadB (L : List Int) (m : Nat) : Bool := decide (m = 8 * L.length)
def loadG (W L xs : List Int) : List Int := if loadB L xs.length then loadTo W L xs L.length else W
/-- the frames of L are among n -/
def InH (n : Nat) (L : List Int) : Prop := ∀ x ∈ L, 0 ≤ x ∧ x < n

section
variable {n : Nat} {W L M xs : List Int}
theorem OkL.inh (h : OkL L n) : InH n L := h.2.2.2.2.1
theorem InH.at_ (h : InH n L) {k : Nat} (hk : k < L.length) : ∃ f : Nat, L.getD k 0 = f ∧ f < n := by
  have hm : L.getD k 0 ∈ L := by
    simp only [List.getD_eq_getElem?_getD, List.getElem?_eq_getElem hk, Option.getD_some]; exact List.getElem_mem hk
  obtain ⟨h0, h1⟩ := h _ hm
  obtain ⟨f, hf⟩ := Int.eq_ofNat_of_zero_le h0
  exact ⟨f, hf, by omega⟩
theorem posG_lt (h : InH n L) {k : Nat} (hk : k < 8 * L.length) : posG L k < 8 * n := by
  obtain ⟨f, hf, hn⟩ := h.at_ (show k / 8 < L.length by omega)
  unfold posG; rw [hf]; simp; omega
theorem posG_div (h : InH n L) {k : Nat} (hk : k < 8 * L.length) : ((posG L k / 8 : Nat) : Int) = L.getD (k / 8) 0 := by
  obtain ⟨f, hf, hn⟩ := h.at_ (show k / 8 < L.length by omega)
  unfold posG; rw [hf]; simp; omega
theorem nodup_at {A : List Int} (hd : A.Nodup) {i j : Nat} (hi : i < A.length) (hj : j < A.length) (e : A[i] = A[j]) : i = j := by
  have a := hd.idxOf_getElem i hi
  have b := hd.idxOf_getElem j hj
  rw [e] at a
  exact a.symm.trans b
theorem posG_inj (h : InH n L) (hd : L.Nodup) {j k : Nat} (hj : j < 8 * L.length) (hk : k < 8 * L.length) (e : posG L j = posG L k) : j = k := by
  have e1 := posG_div h hj
  have e2 := posG_div h hk
  rw [e, e2] at e1
  have hjl : j / 8 < L.length := by omega
  have hkl : k / 8 < L.length := by omega
  simp only [List.getD_eq_getElem?_getD, List.getElem?_eq_getElem hjl, List.getElem?_eq_getElem hkl, Option.getD_some] at e1
  have e3 := nodup_at hd hkl hjl e1
  have e4 : posG L j % 8 = j % 8 := by unfold posG; omega
  have e5 : posG L k % 8 = k % 8 := by unfold posG; omega
  rw [e, e5] at e4
  omega
theorem allG_len (W L : List Int) : (allG W L).length = 8 * L.length := by simp [allG]
theorem allG_get (W : List Int) {k : Nat} (hk : k < 8 * L.length) : (allG W L).getD k 0 = W.getD (posG L k) 0 := by
  unfold allG; simp [List.getD_eq_getElem?_getD, hk]
theorem list_getD_ext {A B : List Int} (hl : A.length = B.length) (h : ∀ k, k < A.length → A.getD k 0 = B.getD k 0) : A = B := by
  apply List.ext_getElem hl
  intro i h1 h2
  have := h i h1
  simpa [List.getD_eq_getElem?_getD, List.getElem?_eq_getElem h1, List.getElem?_eq_getElem h2] using this
theorem frameOf_getD (W : List Int) {f k : Nat} (hk : k < 8) : (frameOf W f).getD k 0 = W.getD (f * 8 + k) 0 := by
  simp only [List.getD_eq_getElem?_getD, frameOf_get k hk]
theorem all_frame (h : InH n L) (hW : W.length = 8 * n) {k : Nat} (hk : k < L.length) : (allG W L).take (8 * k + 8) = (allG W L).take (8 * k) ++ frameOf W (L.getD k 0).toNat := by
  obtain ⟨f, hf, hn⟩ := h.at_ hk
  rw [List.take_add, hf, Int.toNat_natCast]
  congr 1
  have hl := frameOf_len hW hn
  refine list_getD_ext ?_ fun j hj => ?_
  · rw [hl, List.length_take, List.length_drop, allG_len]; omega
  · rw [List.length_take, List.length_drop, allG_len] at hj
    have hj8 : j < 8 := by omega
    rw [frameOf_getD W hj8]
    have e : ((List.drop (8 * k) (allG W L)).take 8).getD j 0 = (allG W L).getD (8 * k + j) 0 := by
      simp only [List.getD_eq_getElem?_getD, List.getElem?_take, if_pos hj8, List.getElem?_drop]
    rw [e, allG_get W (by omega)]
    unfold posG
    rw [show (8 * k + j) / 8 = k by omega, show (8 * k + j) % 8 = j by omega, hf, Int.toNat_natCast]
theorem all_word {k j : Nat} (hk : k < L.length) (hj : j < 8) : (allG W L).take (8 * k + (j + 1)) = (allG W L).take (8 * k + j) ++ [W.getD ((L.getD k 0).toNat * 8 + j) 0] := by
  rw [← Nat.add_assoc, take_snoc _ _ (by rw [allG_len]; omega), allG_get W (by omega)]
  unfold posG
  rw [show (8 * k + j) / 8 = k by omega, show (8 * k + j) % 8 = j by omega]
theorem all_full (W L : List Int) : (allG W L).take (8 * L.length) = allG W L := by rw [← allG_len W L, List.take_length]

theorem hasG_nat (h : InH n L) {g i : Int} : hasG n L g i = decide (0 ≤ g ∧ g < L.length ∧ 0 ≤ i ∧ i < 8) := by
  unfold hasG
  by_cases hb : atB L.length g = true
  · have hb' := hb
    simp only [atB, decide_eq_true_eq] at hb'
    obtain ⟨k, rfl⟩ := Int.eq_ofNat_of_zero_le hb'.1
    obtain ⟨f, hf, hn⟩ := h.at_ (show k < L.length by omega)
    have hv : atV L k = f := by unfold atV; rw [hb, if_pos rfl]; simpa using hf
    rw [hb, hv]
    rw [Bool.eq_iff_iff]; simp [hasW]; omega
  · have hb' : atB L.length g = false := by simpa using hb
    rw [hb']
    simp only [atB, decide_eq_false_iff_not] at hb'
    rw [Bool.eq_iff_iff]; simp; omega
theorem setG_nat (h : InH n L) {k i : Nat} (hk : k < L.length) (hi : i < 8) (v : Int) : setG n W L k i v = W.set (posG L (8 * k + i)) v := by
  have hb : atB L.length k = true := by simp [atB]; omega
  obtain ⟨f, hf, hn⟩ := h.at_ hk
  have hv : atV L k = f := by unfold atV; rw [hb, if_pos rfl]; simpa using hf
  unfold setG
  rw [hb, if_pos rfl, hv]
  have hw : hasW n f i = true := by simp [hasW]; omega
  unfold setW posG
  rw [hw, if_pos rfl, show (8 * k + i) / 8 = k by omega, show (8 * k + i) % 8 = i by omega, hf]
  simp
theorem setG_no (_h : InH n L) {g i : Int} (hno : hasG n L g i = false) (v : Int) : setG n W L g i v = W := by
  unfold hasG at hno
  unfold setG
  by_cases hb : atB L.length g = true
  · rw [hb, Bool.true_and] at hno
    rw [hb, if_pos rfl]; unfold setW; rw [hno]; rfl
  · rw [if_neg hb]
theorem getG_nat (h : InH n L) {k i : Nat} (hk : k < L.length) (hi : i < 8) : getG n W L k i = W.getD (posG L (8 * k + i)) 0 := by
  have hb : atB L.length k = true := by simp [atB]; omega
  obtain ⟨f, hf, hn⟩ := h.at_ hk
  have hv : atV L k = f := by unfold atV; rw [hb, if_pos rfl]; simpa using hf
  unfold getG
  rw [hb, if_pos rfl, hv]
  have hw : hasW n f i = true := by simp [hasW]; omega
  unfold getW posG
  rw [hw, if_pos rfl, show (8 * k + i) / 8 = k by omega, show (8 * k + i) % 8 = i by omega, hf]
  simp
theorem setG_len (n : Nat) (W L : List Int) (g i v : Int) : (setG n W L g i v).length = W.length := by unfold setG; split; exact setW_len _ _ _ _ _; rfl
theorem loadTo_len (W L xs : List Int) : ∀ k, (loadTo W L xs k).length = W.length
  | 0 => rfl
  | k + 1 => by rw [loadTo, setAll_len, loadTo_len W L xs k]
theorem loadG_len (W L xs : List Int) : (loadG W L xs).length = W.length := by unfold loadG; split; exact loadTo_len _ _ _ _; rfl

/-- no word has changed but those of frames of L -/
def Out (L W W' : List Int) : Prop := W'.length = W.length ∧ ∀ p : Nat, ((p / 8 : Nat) : Int) ∉ L → W'.getD p 0 = W.getD p 0
theorem Out.refl (L W : List Int) : Out L W W := ⟨rfl, fun _ _ => rfl⟩
theorem Out.trans {W' W'' : List Int} (h : Out L W W') (k : Out L W' W'') : Out L W W'' := ⟨k.1.trans h.1, fun p hp => (k.2 p hp).trans (h.2 p hp)⟩
theorem getD_set_ne (W : List Int) {p q : Nat} (hn : q ≠ p) (v : Int) : (W.set q v).getD p 0 = W.getD p 0 := by simp [List.getD_eq_getElem?_getD, hn]
theorem setG_out (h : InH n L) (g i v : Int) : Out L W (setG n W L g i v) := by
  by_cases hh : hasG n L g i = true
  · have hh' := hh
    rw [hasG_nat h, decide_eq_true_eq] at hh'
    obtain ⟨k, rfl⟩ := Int.eq_ofNat_of_zero_le hh'.1
    obtain ⟨i, rfl⟩ := Int.eq_ofNat_of_zero_le hh'.2.2.1
    rw [setG_nat h (by omega) (by omega)]
    refine ⟨by simp, fun p hp => getD_set_ne W (fun e => hp ?_) v⟩
    subst e
    rw [posG_div h (by omega)]
    have hk : (8 * k + i) / 8 < L.length := by omega
    simp only [List.getD_eq_getElem?_getD, List.getElem?_eq_getElem hk, Option.getD_some]; exact List.getElem_mem hk
  · rw [setG_no h (by simpa using hh)]; exact Out.refl _ _
theorem setAll_getD (xs A : List Int) (o i : Nat) (h : o + xs.length ≤ A.length) : (setAll A o xs).getD i 0 = if o ≤ i ∧ i < o + xs.length then xs.getD (i - o) 0 else A.getD i 0 := by
  simp only [List.getD_eq_getElem?_getD, setAll_get xs A o i h]; split <;> rfl
theorem loadTo_step (h : InH n L) (hW : W.length = 8 * n) {k : Nat} (hk : k < L.length) (hx : xs.length = 8 * L.length) (p : Nat) :
    (loadTo W L xs (k + 1)).getD p 0 = if ((p / 8 : Nat) : Int) = L.getD k 0 then xs.getD (8 * k + p % 8) 0 else (loadTo W L xs k).getD p 0 := by
  obtain ⟨f, hf, hn⟩ := h.at_ hk
  have h8 : ((xs.drop (8 * k)).take 8).length = 8 := by rw [List.length_take, List.length_drop]; omega
  rw [loadTo, setAll_getD _ _ _ _ (by rw [h8, loadTo_len, hf]; simp; omega), h8, hf, Int.toNat_natCast]
  by_cases hp : p / 8 = f
  · rw [if_pos (by omega), if_pos (by omega)]
    simp only [List.getD_eq_getElem?_getD, List.getElem?_take, List.getElem?_drop]
    rw [if_pos (by omega), show p - f * 8 = p % 8 by omega]
  · rw [if_neg (by omega), if_neg (by omega)]
theorem loadTo_out (h : InH n L) (hW : W.length = 8 * n) (hx : xs.length = 8 * L.length) : ∀ k, k ≤ L.length → Out L W (loadTo W L xs k)
  | 0, _ => Out.refl _ _
  | k + 1, hk => (loadTo_out h hW hx k (by omega)).trans ⟨by rw [loadTo_len, loadTo_len], fun p hp => by
      rw [loadTo_step h hW (by omega) hx, if_neg]
      intro e
      rw [e] at hp
      have hk : k < L.length := by omega
      refine hp ?_
      simp only [List.getD_eq_getElem?_getD, List.getElem?_eq_getElem hk, Option.getD_some]; exact List.getElem_mem hk⟩
theorem loadG_out (h : InH n L) (hW : W.length = 8 * n) : Out L W (loadG W L xs) := by
  unfold loadG
  split
  · rename_i hb
    exact loadTo_out h hW (by simpa [loadB] using hb) _ (Nat.le_refl _)
  · exact Out.refl _ _
theorem loadTo_at (h : InH n L) (hd : L.Nodup) (hW : W.length = 8 * n) (hx : xs.length = 8 * L.length) : ∀ k, k ≤ L.length → ∀ j, j < 8 * k → (loadTo W L xs k).getD (posG L j) 0 = xs.getD j 0
  | 0, _, j, hj => by omega
  | k + 1, hk, j, hj => by
    rw [loadTo_step h hW (by omega) hx, posG_div h (by omega)]
    have hjl : j / 8 < L.length := by omega
    have hkl : k < L.length := by omega
    have em : posG L j % 8 = j % 8 := by unfold posG; omega
    by_cases e : j / 8 = k
    · rw [if_pos (by rw [e]), em, show 8 * k + j % 8 = j by omega]
    · rw [if_neg, loadTo_at h hd hW hx k (by omega) j (by omega)]
      intro e1
      simp only [List.getD_eq_getElem?_getD, List.getElem?_eq_getElem hjl, List.getElem?_eq_getElem hkl, Option.getD_some] at e1
      exact e (nodup_at hd hjl hkl e1)
theorem allG_load (h : InH n L) (hd : L.Nodup) (hW : W.length = 8 * n) (hx : xs.length = 8 * L.length) : allG (loadG W L xs) L = xs := by
  have hb : loadB L xs.length = true := by simp [loadB, hx]
  unfold loadG; rw [if_pos hb]
  refine list_getD_ext (by rw [allG_len, hx]) fun k hk => ?_
  rw [allG_len] at hk
  rw [allG_get _ hk, loadTo_at h hd hW hx _ (Nat.le_refl _) k hk]
theorem allG_set (h : InH n L) (hd : L.Nodup) (hW : W.length = 8 * n) {k i : Nat} (hk : k < L.length) (hi : i < 8) (v : Int) : allG (setG n W L k i v) L = (allG W L).set (8 * k + i) v := by
  rw [setG_nat h hk hi]
  refine list_getD_ext (by simp [allG_len]) fun j hj => ?_
  rw [allG_len] at hj
  rw [allG_get _ hj]
  by_cases e : 8 * k + i = j
  · subst e
    have hp := posG_lt h (show 8 * k + i < 8 * L.length by omega)
    simp [List.getD_eq_getElem?_getD, hW, hp, allG_len, hj]
  · rw [getD_set_ne _ (fun e' => e (posG_inj h hd (by omega) hj e')), getD_set_ne _ e, allG_get _ hj]
theorem Out.frame {W' : List Int} (h : Out L W W') (hW : W.length = 8 * n) {f : Nat} (hf : f < n) (hL : (f : Int) ∉ L) : frameOf W' f = frameOf W f := by
  refine list_getD_ext (by rw [frameOf_len (h.1.trans hW) hf, frameOf_len hW hf]) fun k hk => ?_
  rw [frameOf_len (h.1.trans hW) hf] at hk
  rw [frameOf_getD _ hk, frameOf_getD _ hk]
  exact h.2 _ (by rw [show (f * 8 + k) / 8 = f by omega]; exact hL)
theorem Out.all {W' : List Int} (h : Out L W W') (hM : InH n M) (hL : ∀ x ∈ M, x ∉ L) : allG W' M = allG W M := by
  refine list_getD_ext (by rw [allG_len, allG_len]) fun k hk => ?_
  rw [allG_len] at hk
  rw [allG_get _ hk, allG_get _ hk]
  refine h.2 _ ?_
  rw [posG_div hM hk]
  refine hL _ ?_
  have hk : k / 8 < M.length := by omega
  simp only [List.getD_eq_getElem?_getD, List.getElem?_eq_getElem hk, Option.getD_some]; exact List.getElem_mem hk
end

end Go.Proofs.Ytgjfidjhbkaobaa

namespace Go.Proofs.Ytgjfidjhbkaobaa
open Go.RowKit Go.Maps

theorem GAt.apart {w : World} {S : List Nat} {p b : Nat} {L W : List Int} (h : GAt w S p L) (hb : Blk w b 125 (u64s W)) : b ∉ S := by
  obtain ⟨m, v, h1, rfl, _⟩ := h
  simp only [List.mem_cons, not_or]
  refine ⟨hb.type_ne h1.st (by decide), fun e => h1.mp.blk_ne hb e.symm, fun hm => ?_⟩
  obtain ⟨cur, hc⟩ := h1.bk.blk hm
  exact hc.type_ne hb (by decide) rfl
theorem GAt.apartR {w : World} {S : List Nat} {p b : Nat} {L W : List Int} (h : GAt w S p L) (hb : Blk w b 34 (u64s W)) : b ∉ S := by
  obtain ⟨m, v, h1, rfl, _⟩ := h
  simp only [List.mem_cons, not_or]
  refine ⟨hb.type_ne h1.st (by decide), fun e => h1.mp.blk_ne hb e.symm, fun hm => ?_⟩
  obtain ⟨cur, hc⟩ := h1.bk.blk hm
  exact hc.type_ne hb (by decide) rfl

/-- q is a guest's memory: of the map p of L (its blocks S), in the host's memory h -/
structure GuIn (w : World) (q : Nat) (S : List Nat) (p : Nat) (L : List Int) (h b n : Nat) (W : List Int) : Prop where
  st : Blk w q 115 #[.pointer (some ⟨p, 0, none⟩), .pointer (some ⟨h, 0, none⟩)]
  mp : GAt w S p L
  hm : MemAt w h b n W
  inn : InH n L

section
variable {w w' : World} {q p h b n : Nat} {S T : List Nat} {L W W' : List Int}
theorem GuIn.c (g : GuIn w q S p L h b n W) : w.cell? ⟨q, 0, none⟩ = some (.pointer (some ⟨p, 0, none⟩)) ∧ w.cell? ⟨q, 1, none⟩ = some (.pointer (some ⟨h, 0, none⟩)) := blkc2 g.st
theorem GuIn.self (g : GuIn w q S p L h b n W) (hc : Chg [] w w') : GuIn w' q S p L h b n W := ⟨hc.blk g.st (by simp), g.mp.self hc, g.hm.chg hc (by simp) (by simp), g.inn⟩
theorem GuIn.write (g : GuIn w q S p L h b n W) (hc : Chg [b] w w') (hm : MemAt w' h b n W') : GuIn w' q S p L h b n W' :=
  ⟨hc.blk g.st (by have := g.st.type_ne g.hm.ws (by decide); simpa using this), g.mp.chg hc (by
    intro i hi hm; rw [List.mem_singleton] at hm; subst hm; exact g.mp.apart g.hm.ws hi), hm, g.inn⟩
theorem GuIn.other (g : GuIn w q S p L h b n W) (hc : Chg T w w') (h1 : q ∉ T) (h2 : ∀ i ∈ S, i ∉ T) (h3 : h ∉ T) (h4 : b ∉ T) : GuIn w' q S p L h b n W :=
  ⟨hc.blk g.st h1, g.mp.chg hc h2, g.hm.chg hc h3 h4, g.inn⟩
theorem GuIn.ok (g : GuIn w q S p L h b n W) : 1 ≤ L.length ∧ L.length ≤ 64 ∧ L.Nodup := ⟨g.mp.ok.1, g.mp.ok.2.1, g.mp.ok.2.2.2.2.2⟩
end

theorem GuNew_at (p h : Nat) (w : World) :
    Calls Try.prog 46 #[.pointer (some ⟨h, 0, none⟩), .pointer (some ⟨p, 0, none⟩)] w fun e w' => ∃ q, e = .returned (.pointer (some ⟨q, 0, none⟩)) ∧ Chg [] w w' ∧ Blk w' q 115 #[.pointer (some ⟨p, 0, none⟩), .pointer (some ⟨h, 0, none⟩)] ∧ w.heap.size ≤ q := by
  go_enter Try.func46, Try.ntmps46
  go_wp2
  go_ret
  exact ⟨_, rfl, (Chg.refl _ _).alloc _, Blk.new _ _ _, Nat.le_refl _⟩

set_option maxHeartbeats 1000000 in
theorem GuGet_at (q : Nat) (S : List Nat) (p : Nat) (L : List Int) (h b n : Nat) (W : List Int) (f i : Int) (w : World) (g : GuIn w q S p L h b n W) :
    Calls Try.prog 26 #[.pointer (some ⟨q, 0, none⟩), .int .i64 f, .int .i64 i] w fun e w' => e = .returned (.tuple #[.int .u64 (getG n W L f i), .bool (hasG n L f i)]) ∧ w = w' := by
  obtain ⟨c0, c1⟩ := g.c
  have hg := g.mp
  have hm := g.hm
  clear g
  have e1 : getG n W L f i = if atB L.length f then getW n W (atV L f) i else 0 := rfl
  have e2 : hasG n L f i = (atB L.length f && hasW n (atV L f) i) := rfl
  have HG := GHost_at S p L f w hg
  generalize atV L f = x at *
  generalize atB L.length f = t at *
  cases t with
  | true =>
    rw [if_pos rfl] at e1
    rw [Bool.true_and] at e2
    have E1 := Lib.hid e1; have E2 := Lib.hid e2
    clear e1 e2 hg
    go_enter Try.func26, Try.ntmps26
    go_wp2_with fail
    refine HG.mono ?_; rintro e w' ⟨rfl, rfl⟩
    go_wp2_with fail
    refine (Get_at h b n W x i _ hm).mono ?_; rintro e w' ⟨rfl, rfl⟩
    go_wp2_with fail
    go_ret2
    exact ⟨by rw [E1.out, E2.out]; rfl, rfl⟩
  | false =>
    rw [if_neg (by decide)] at e1
    rw [Bool.false_and] at e2
    have E1 := Lib.hid e1; have E2 := Lib.hid e2
    clear e1 e2 hg
    go_enter Try.func26, Try.ntmps26
    go_wp2_with fail
    refine HG.mono ?_; rintro e w' ⟨rfl, rfl⟩
    go_wp2_with fail
    go_ret2
    exact ⟨by rw [E1.out, E2.out]; rfl, rfl⟩

set_option maxHeartbeats 1000000 in
theorem GuSet_at (q : Nat) (S : List Nat) (p : Nat) (L : List Int) (h b n : Nat) (W : List Int) (f i v : Int) (w : World) (g : GuIn w q S p L h b n W) :
    Calls Try.prog 22 #[.pointer (some ⟨q, 0, none⟩), .int .i64 f, .int .i64 i, .int .u64 v] w fun e w' => e = .returned (.bool (hasG n L f i)) ∧ Chg [b] w w' ∧ GuIn w' q S p L h b n (setG n W L f i v) := by
  obtain ⟨c0, c1⟩ := g.c
  have hg := g.mp
  have hm := g.hm
  have hw : ∀ w' W', Chg [b] w w' → MemAt w' h b n W' → GuIn w' q S p L h b n W' := fun w' W' h1 h2 => g.write h1 h2
  have e1 : setG n W L f i v = if atB L.length f then setW n W (atV L f) i v else W := rfl
  have e2 : hasG n L f i = (atB L.length f && hasW n (atV L f) i) := rfl
  have HG := GHost_at S p L f w hg
  have hself := g.write (Chg.refl [b] w) hm
  clear g
  generalize atV L f = x at *
  generalize atB L.length f = t at *
  cases t with
  | true =>
    rw [if_pos rfl] at e1
    rw [Bool.true_and] at e2
    have E1 := Lib.hid e1; have E2 := Lib.hid e2
    clear e1 e2 hg hself
    go_enter Try.func22, Try.ntmps22
    go_wp2_with fail
    refine HG.mono ?_; rintro e w' ⟨rfl, rfl⟩
    go_wp2_with fail
    refine (Set_at h b n W x i v _ hm).mono ?_; rintro e w3 ⟨rfl, hc3, hm3⟩
    go_wp2_with fail
    go_ret
    exact ⟨by rw [E2.out]; rfl, hc3, by rw [E1.out]; exact hw _ _ hc3 hm3⟩
  | false =>
    rw [if_neg (by decide)] at e1
    rw [Bool.false_and] at e2
    have E1 := Lib.hid e1; have E2 := Lib.hid e2
    clear e1 e2 hg hm
    go_enter Try.func22, Try.ntmps22
    go_wp2_with fail
    refine HG.mono ?_; rintro e w' ⟨rfl, rfl⟩
    go_wp2_with fail
    go_ret
    exact ⟨by rw [E2.out]; rfl, Chg.refl _ _, by rw [E1.out]; exact hself⟩

end Go.Proofs.Ytgjfidjhbkaobaa
