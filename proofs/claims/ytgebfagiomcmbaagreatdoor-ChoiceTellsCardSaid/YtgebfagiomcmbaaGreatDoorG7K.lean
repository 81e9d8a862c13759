/-
  GuestP, GuestB, GuestC, GuestD, GuestR in one text.
-/
import Derived.Test.YtgebfagiomcmbaaGreatDoorG1K
import Derived.Test.YtgebfagiomcmbaaGreatDoorG3K
namespace Go.Proofs.YtgebfagiomcmbaaGreatDoor
open Go.RowKit

/-- where a guest's word lies in its host's words -/
def posG (L : List Int) (k : Nat) : Nat := (L.getD (k / 8) 0).toNat * 8 + k % 8
/-- all words of a guest -/
def allG (W L : List Int) : List Int := (List.range (8 * L.length)).map fun k => W.getD (posG L k) 0
def hasG (n : Nat) (L : List Int) (g i : Int) : Bool := atB L.length g && hasW n (atV L g) i
def getG (n : Nat) (W L : List Int) (g i : Int) : Int := if atB L.length g then getW n W (atV L g) i else 0
def setG (n : Nat) (W L : List Int) (g i v : Int) : List Int := if atB L.length g then setW n W (atV L g) i v else W
/-- the frames of L are among n -/
def InH (n : Nat) (L : List Int) : Prop := ∀ x ∈ L, 0 ≤ x ∧ x < n

section
variable {n : Nat} {W L M xs : List Int}
theorem OkL.inh (h : OkL L n) : InH n L := h.2.2.2.2.1
theorem InH.at_ (h : InH n L) {k : Nat} (hk : k < L.length) : ∃ f : Nat, L.getD k 0 = f ∧ f < n := by
  have hm : L.getD k 0 ∈ L := by
    simp only [List.getD_eq_getElem?_getD, List.getElem?_eq_getElem hk, Option.getD_some]; exact List.getElem_mem hk
  obtain ⟨h0, h1⟩ := h _ hm
  obtain ⟨f, hf⟩ := Int.eq_ofNat_of_zero_le h0
  exact ⟨f, hf, by omega⟩
theorem posG_div (h : InH n L) {k : Nat} (hk : k < 8 * L.length) : ((posG L k / 8 : Nat) : Int) = L.getD (k / 8) 0 := by
  obtain ⟨f, hf, hn⟩ := h.at_ (show k / 8 < L.length by omega)
  unfold posG; rw [hf]; simp; omega
theorem allG_len (W L : List Int) : (allG W L).length = 8 * L.length := by simp [allG]
theorem allG_get (W : List Int) {k : Nat} (hk : k < 8 * L.length) : (allG W L).getD k 0 = W.getD (posG L k) 0 := by
  unfold allG; simp [List.getD_eq_getElem?_getD, hk]
theorem list_getD_ext {A B : List Int} (hl : A.length = B.length) (h : ∀ k, k < A.length → A.getD k 0 = B.getD k 0) : A = B := by
  apply List.ext_getElem hl
  intro i h1 h2
  have := h i h1
  simpa [List.getD_eq_getElem?_getD, List.getElem?_eq_getElem h1, List.getElem?_eq_getElem h2] using this
theorem frameOf_getD (W : List Int) {f k : Nat} (hk : k < 8) : (frameOf W f).getD k 0 = W.getD (f * 8 + k) 0 := by
  simp only [List.getD_eq_getElem?_getD, frameOf_get k hk]
theorem all_frame (h : InH n L) (hW : W.length = 8 * n) {k : Nat} (hk : k < L.length) : (allG W L).take (8 * k + 8) = (allG W L).take (8 * k) ++ frameOf W (L.getD k 0).toNat := by
  obtain ⟨f, hf, hn⟩ := h.at_ hk
  rw [List.take_add, hf, Int.toNat_natCast]
  congr 1
  have hl := frameOf_len hW hn
  refine list_getD_ext ?_ fun j hj => ?_
  · rw [hl, List.length_take, List.length_drop, allG_len]; omega
  · rw [List.length_take, List.length_drop, allG_len] at hj
    have hj8 : j < 8 := by omega
    rw [frameOf_getD W hj8]
    have e : ((List.drop (8 * k) (allG W L)).take 8).getD j 0 = (allG W L).getD (8 * k + j) 0 := by
      simp only [List.getD_eq_getElem?_getD, List.getElem?_take, if_pos hj8, List.getElem?_drop]
    rw [e, allG_get W (by omega)]
    unfold posG
    rw [show (8 * k + j) / 8 = k by omega, show (8 * k + j) % 8 = j by omega, hf, Int.toNat_natCast]
theorem all_word {k j : Nat} (hk : k < L.length) (hj : j < 8) : (allG W L).take (8 * k + (j + 1)) = (allG W L).take (8 * k + j) ++ [W.getD ((L.getD k 0).toNat * 8 + j) 0] := by
  rw [← Nat.add_assoc, take_snoc _ _ (by rw [allG_len]; omega), allG_get W (by omega)]
  unfold posG
  rw [show (8 * k + j) / 8 = k by omega, show (8 * k + j) % 8 = j by omega]
theorem all_full (W L : List Int) : (allG W L).take (8 * L.length) = allG W L := by rw [← allG_len W L, List.take_length]

theorem hasG_nat (h : InH n L) {g i : Int} : hasG n L g i = decide (0 ≤ g ∧ g < L.length ∧ 0 ≤ i ∧ i < 8) := by
  unfold hasG
  by_cases hb : atB L.length g = true
  · have hb' := hb
    simp only [atB, decide_eq_true_eq] at hb'
    obtain ⟨k, rfl⟩ := Int.eq_ofNat_of_zero_le hb'.1
    obtain ⟨f, hf, hn⟩ := h.at_ (show k < L.length by omega)
    have hv : atV L k = f := by unfold atV; rw [hb, if_pos rfl]; simpa using hf
    rw [hb, hv]
    rw [Bool.eq_iff_iff]; simp [hasW]; omega
  · have hb' : atB L.length g = false := by simpa using hb
    rw [hb']
    simp only [atB, decide_eq_false_iff_not] at hb'
    rw [Bool.eq_iff_iff]; simp; omega
theorem getG_nat (h : InH n L) {k i : Nat} (hk : k < L.length) (hi : i < 8) : getG n W L k i = W.getD (posG L (8 * k + i)) 0 := by
  have hb : atB L.length k = true := by simp [atB]; omega
  obtain ⟨f, hf, hn⟩ := h.at_ hk
  have hv : atV L k = f := by unfold atV; rw [hb, if_pos rfl]; simpa using hf
  unfold getG
  rw [hb, if_pos rfl, hv]
  have hw : hasW n f i = true := by simp [hasW]; omega
  unfold getW posG
  rw [hw, if_pos rfl, show (8 * k + i) / 8 = k by omega, show (8 * k + i) % 8 = i by omega, hf]
  simp
theorem setG_len (n : Nat) (W L : List Int) (g i v : Int) : (setG n W L g i v).length = W.length := by unfold setG; split; exact setW_len _ _ _ _ _; rfl
/-- no word has changed but those of frames of L -/
def Out (L W W' : List Int) : Prop := W'.length = W.length ∧ ∀ p : Nat, ((p / 8 : Nat) : Int) ∉ L → W'.getD p 0 = W.getD p 0
theorem Out.refl (L W : List Int) : Out L W W := ⟨rfl, fun _ _ => rfl⟩
theorem Out.trans {W' W'' : List Int} (h : Out L W W') (k : Out L W' W'') : Out L W W'' := ⟨k.1.trans h.1, fun p hp => (k.2 p hp).trans (h.2 p hp)⟩
theorem Out.frame {W' : List Int} (h : Out L W W') (hW : W.length = 8 * n) {f : Nat} (hf : f < n) (hL : (f : Int) ∉ L) : frameOf W' f = frameOf W f := by
  refine list_getD_ext (by rw [frameOf_len (h.1.trans hW) hf, frameOf_len hW hf]) fun k hk => ?_
  rw [frameOf_len (h.1.trans hW) hf] at hk
  rw [frameOf_getD _ hk, frameOf_getD _ hk]
  exact h.2 _ (by rw [show (f * 8 + k) / 8 = f by omega]; exact hL)
theorem Out.all {W' : List Int} (h : Out L W W') (hM : InH n M) (hL : ∀ x ∈ M, x ∉ L) : allG W' M = allG W M := by
  refine list_getD_ext (by rw [allG_len, allG_len]) fun k hk => ?_
  rw [allG_len] at hk
  rw [allG_get _ hk, allG_get _ hk]
  refine h.2 _ ?_
  rw [posG_div hM hk]
  refine hL _ ?_
  have hk : k / 8 < M.length := by omega
  simp only [List.getD_eq_getElem?_getD, List.getElem?_eq_getElem hk, Option.getD_some]; exact List.getElem_mem hk
end

end Go.Proofs.YtgebfagiomcmbaaGreatDoor

namespace Go.Proofs.YtgebfagiomcmbaaGreatDoor
open Go.RowKit Go.Maps

theorem GAt.apart {w : World} {S : List Nat} {p b : Nat} {L W : List Int} (h : GAt w S p L) (hb : Blk w b 166 (u64s W)) : b ∉ S := by
  obtain ⟨m, v, h1, rfl, _⟩ := h
  simp only [List.mem_cons, not_or]
  refine ⟨hb.type_ne h1.st (by decide), fun e => h1.mp.blk_ne hb e.symm, fun hm => ?_⟩
  obtain ⟨cur, hc⟩ := h1.bk.blk hm
  exact hc.type_ne hb (by decide) rfl
theorem GAt.apartR {w : World} {S : List Nat} {p b : Nat} {L W : List Int} (h : GAt w S p L) (hb : Blk w b 35 (u64s W)) : b ∉ S := by
  obtain ⟨m, v, h1, rfl, _⟩ := h
  simp only [List.mem_cons, not_or]
  refine ⟨hb.type_ne h1.st (by decide), fun e => h1.mp.blk_ne hb e.symm, fun hm => ?_⟩
  obtain ⟨cur, hc⟩ := h1.bk.blk hm
  exact hc.type_ne hb (by decide) rfl

/-- q is a guest's memory: of the map p of L (its blocks S), in the host's memory h -/
structure GuIn (w : World) (q : Nat) (S : List Nat) (p : Nat) (L : List Int) (h b n : Nat) (W : List Int) : Prop where
  st : Blk w q 121 #[.pointer (some ⟨p, 0, none⟩), .pointer (some ⟨h, 0, none⟩)]
  mp : GAt w S p L
  hm : MemAt w h b n W
  inn : InH n L

section
variable {w w' : World} {q p h b n : Nat} {S T : List Nat} {L W W' : List Int}
theorem GuIn.c (g : GuIn w q S p L h b n W) : w.cell? ⟨q, 0, none⟩ = some (.pointer (some ⟨p, 0, none⟩)) ∧ w.cell? ⟨q, 1, none⟩ = some (.pointer (some ⟨h, 0, none⟩)) := blkc2 g.st
theorem GuIn.self (g : GuIn w q S p L h b n W) (hc : Chg [] w w') : GuIn w' q S p L h b n W := ⟨hc.blk g.st (by simp), g.mp.self hc, g.hm.chg hc (by simp) (by simp), g.inn⟩
theorem GuIn.write (g : GuIn w q S p L h b n W) (hc : Chg [b] w w') (hm : MemAt w' h b n W') : GuIn w' q S p L h b n W' :=
  ⟨hc.blk g.st (by have := g.st.type_ne g.hm.ws (by decide); simpa using this), g.mp.chg hc (by
    intro i hi hm; rw [List.mem_singleton] at hm; subst hm; exact g.mp.apart g.hm.ws hi), hm, g.inn⟩
theorem GuIn.other (g : GuIn w q S p L h b n W) (hc : Chg T w w') (h1 : q ∉ T) (h2 : ∀ i ∈ S, i ∉ T) (h3 : h ∉ T) (h4 : b ∉ T) : GuIn w' q S p L h b n W :=
  ⟨hc.blk g.st h1, g.mp.chg hc h2, g.hm.chg hc h3 h4, g.inn⟩
theorem GuIn.ok (g : GuIn w q S p L h b n W) : 1 ≤ L.length ∧ L.length ≤ 64 ∧ L.Nodup := ⟨g.mp.ok.1, g.mp.ok.2.1, g.mp.ok.2.2.2.2.2⟩
end

theorem GuNew_at (p h : Nat) (w : World) :
    Calls Tryz.prog 35 #[.pointer (some ⟨h, 0, none⟩), .pointer (some ⟨p, 0, none⟩)] w fun e w' => ∃ q, e = .returned (.pointer (some ⟨q, 0, none⟩)) ∧ Chg [] w w' ∧ Blk w' q 121 #[.pointer (some ⟨p, 0, none⟩), .pointer (some ⟨h, 0, none⟩)] ∧ w.heap.size ≤ q := by
  go_enter Tryz.func35, Tryz.ntmps35
  go_wp2
  go_ret
  exact ⟨_, rfl, (Chg.refl _ _).alloc _, Blk.new _ _ _, Nat.le_refl _⟩

theorem GuFrames_at (q : Nat) (S : List Nat) (p : Nat) (L : List Int) (h b n : Nat) (W : List Int) (w : World) (g : GuIn w q S p L h b n W) :
    Calls Tryz.prog 70 #[.pointer (some ⟨q, 0, none⟩)] w fun e w' => e = .returned (.int .i64 L.length) ∧ w = w' := by
  obtain ⟨c0, c1⟩ := g.c
  have hg := g.mp
  clear g
  go_enter Tryz.func70, Tryz.ntmps70
  go_wp2_with fail
  refine (GMany_at S p L _ hg).mono ?_; rintro e w' ⟨rfl, rfl⟩
  go_wp2_with fail
  go_ret
  exact ⟨rfl, rfl⟩

set_option maxHeartbeats 1000000 in
theorem GuGet_at (q : Nat) (S : List Nat) (p : Nat) (L : List Int) (h b n : Nat) (W : List Int) (f i : Int) (w : World) (g : GuIn w q S p L h b n W) :
    Calls Tryz.prog 89 #[.pointer (some ⟨q, 0, none⟩), .int .i64 f, .int .i64 i] w fun e w' => e = .returned (.tuple #[.int .u64 (getG n W L f i), .bool (hasG n L f i)]) ∧ w = w' := by
  obtain ⟨c0, c1⟩ := g.c
  have hg := g.mp
  have hm := g.hm
  clear g
  have e1 : getG n W L f i = if atB L.length f then getW n W (atV L f) i else 0 := rfl
  have e2 : hasG n L f i = (atB L.length f && hasW n (atV L f) i) := rfl
  have HG := GHost_at S p L f w hg
  generalize atV L f = x at *
  generalize atB L.length f = t at *
  cases t with
  | true =>
    rw [if_pos rfl] at e1
    rw [Bool.true_and] at e2
    have E1 := Lib.hid e1; have E2 := Lib.hid e2
    clear e1 e2 hg
    go_enter Tryz.func89, Tryz.ntmps89
    go_wp2_with fail
    refine HG.mono ?_; rintro e w' ⟨rfl, rfl⟩
    go_wp2_with fail
    refine (Get_at h b n W x i _ hm).mono ?_; rintro e w' ⟨rfl, rfl⟩
    go_wp2_with fail
    go_ret2
    exact ⟨by rw [E1.out, E2.out]; rfl, rfl⟩
  | false =>
    rw [if_neg (by decide)] at e1
    rw [Bool.false_and] at e2
    have E1 := Lib.hid e1; have E2 := Lib.hid e2
    clear e1 e2 hg
    go_enter Tryz.func89, Tryz.ntmps89
    go_wp2_with fail
    refine HG.mono ?_; rintro e w' ⟨rfl, rfl⟩
    go_wp2_with fail
    go_ret2
    exact ⟨by rw [E1.out, E2.out]; rfl, rfl⟩

set_option maxHeartbeats 1000000 in
theorem GuSet_at (q : Nat) (S : List Nat) (p : Nat) (L : List Int) (h b n : Nat) (W : List Int) (f i v : Int) (w : World) (g : GuIn w q S p L h b n W) :
    Calls Tryz.prog 36 #[.pointer (some ⟨q, 0, none⟩), .int .i64 f, .int .i64 i, .int .u64 v] w fun e w' => e = .returned (.bool (hasG n L f i)) ∧ Chg [b] w w' ∧ GuIn w' q S p L h b n (setG n W L f i v) := by
  obtain ⟨c0, c1⟩ := g.c
  have hg := g.mp
  have hm := g.hm
  have hw : ∀ w' W', Chg [b] w w' → MemAt w' h b n W' → GuIn w' q S p L h b n W' := fun w' W' h1 h2 => g.write h1 h2
  have e1 : setG n W L f i v = if atB L.length f then setW n W (atV L f) i v else W := rfl
  have e2 : hasG n L f i = (atB L.length f && hasW n (atV L f) i) := rfl
  have HG := GHost_at S p L f w hg
  have hself := g.write (Chg.refl [b] w) hm
  clear g
  generalize atV L f = x at *
  generalize atB L.length f = t at *
  cases t with
  | true =>
    rw [if_pos rfl] at e1
    rw [Bool.true_and] at e2
    have E1 := Lib.hid e1; have E2 := Lib.hid e2
    clear e1 e2 hg hself
    go_enter Tryz.func36, Tryz.ntmps36
    go_wp2_with fail
    refine HG.mono ?_; rintro e w' ⟨rfl, rfl⟩
    go_wp2_with fail
    refine (Set_at h b n W x i v _ hm).mono ?_; rintro e w3 ⟨rfl, hc3, hm3⟩
    go_wp2_with fail
    go_ret
    exact ⟨by rw [E2.out]; rfl, hc3, by rw [E1.out]; exact hw _ _ hc3 hm3⟩
  | false =>
    rw [if_neg (by decide)] at e1
    rw [Bool.false_and] at e2
    have E1 := Lib.hid e1; have E2 := Lib.hid e2
    clear e1 e2 hg hm
    go_enter Tryz.func36, Tryz.ntmps36
    go_wp2_with fail
    refine HG.mono ?_; rintro e w' ⟨rfl, rfl⟩
    go_wp2_with fail
    go_ret
    exact ⟨by rw [E2.out]; rfl, Chg.refl _ _, by rw [E1.out]; exact hself⟩

end Go.Proofs.YtgebfagiomcmbaaGreatDoor

namespace Go.Proofs.YtgebfagiomcmbaaGreatDoor
open Go.RowKit Go.Maps

theorem make_none (n : Nat) (hn : n ≤ 1073741824) (w : World) :
    (Instr.makeSlice 50 (.int .i64 0) (.int .i64 n)).run Tryz.prog w = .ok (.slice (some ⟨w.heap.size, 0, none⟩) 0 n) (w.alloc (.cells (u64s (zeros n)) 35)) := by
  obtain ⟨i, hi, hz, hs, hb⟩ := info_parts u64_info
  have h := run_make (P := Tryz.prog) w 50 35 i (.int .u64 0) Tryz.underlying50 hi hz .i64 .i64 0 n (by omega) (Int.natCast_nonneg n) (by rw [hb]; omega) (by omega)
  rw [hs] at h
  rw [← u64s_zero]
  rw [madeCells_const (Value.int .u64 0).cells (.int .u64 0) _ 1 (by decide) rfl] at h
  simpa using h

theorem own_room {w : World} {t : TypeId} {g c : Nat} {cs : Array Value} (h : Blk w g t cs) (hc : cs.size = c) (hm : c ≤ maxLen) : w.ownsRow 0 t 1 (.slice (some ⟨g, 0, none⟩) 0 c) 0 [] :=
  ⟨by simp, .inr ⟨g, c, cs, rfl, Nat.zero_le _, h, Nat.zero_le _, hm, by omega, by simp⟩⟩

set_option maxHeartbeats 2000000 in
theorem GuAll_at (q : Nat) (S : List Nat) (p : Nat) (L : List Int) (h b n : Nat) (W : List Int) (w : World) (g : GuIn w q S p L h b n W) :
    Calls Tryz.prog 24 #[.pointer (some ⟨q, 0, none⟩)] w fun e w' => ∃ A c, e = .returned (.slice A (8 * L.length) c) ∧ Chg [] w w' ∧ OwnI w' 35 .u64 (.slice A (8 * L.length) c) (allG W L) ∧ ∀ i ∈ (Value.slice A (8 * L.length) c).ownBlock.toList, w.heap.size ≤ i := by
  obtain ⟨hl1, hl2, hnd⟩ := g.ok
  have hinn := g.inn
  have hWl := g.hm.len
  have HND := Lib.hid hnd; have HWL := Lib.hid hWl
  clear hnd hWl
  obtain ⟨i0, hi0, hz0, hz1, hz2⟩ := info_parts u64_info
  have hmk : ∀ w : World, (Instr.makeSlice 50 (.int .i64 0) (.int .i64 (↑L.length * 8))).run Tryz.prog w = .ok (.slice (some ⟨w.heap.size, 0, none⟩) 0 (8 * L.length)) (w.alloc (.cells (u64s (zeros (8 * L.length))) 35)) := fun w => by
    have := make_none (8 * L.length) (by omega) w
    rw [show ((8 * L.length : Nat) : Int) = ↑L.length * 8 by omega] at this
    exact this
  go_enter Tryz.func24, Tryz.ntmps24
  go_wp2_with fail
  refine (GuFrames_at q S p L h b n W _ g).mono ?_; rintro e w' ⟨rfl, rfl⟩
  go_wp2_with fail
  have hbn := Blk.new w 35 (u64s (zeros (8 * L.length)))
  have hown := own_room (c := 8 * L.length) hbn (by simp [u64s, zeros]) (by simp [maxLen]; omega)
  have hca : Chg [] w (w.alloc (.cells (u64s (zeros (8 * L.length))) 35)) := (Chg.refl _ _).alloc _
  have hga := g.self hca
  clear hbn hmk
  refine (GuFrames_at q S p L h b n W _ hga).mono ?_; rintro e w' ⟨rfl, rfl⟩
  go_wp2_with fail
  go_loopw [3, 13] (fun v i w' => ∃ k : Nat, k ≤ L.length ∧ i = .int .i64 k ∧ Chg [] w w' ∧ w'.ownsRow 0 35 1 v (8 * k) (vals .u64 ((allG W L).take (8 * k))) ∧ (∀ i ∈ v.ownBlock.toList, w.heap.size ≤ i)) (fun _ i _ => L.length - (intOf i).toNat)
  case atStart => exact ⟨0, by omega, rfl, hca, by simpa [vals] using hown, by simp [Value.ownBlock]⟩
  case round =>
    clear hown hca hga
    obtain ⟨k, hk, rfl, hc, ho, hg⟩ := hrel
    obtain ⟨A, c, rfl, hA1, hA2⟩ := own_form ho
    by_cases hlt : k < L.length
    · have g := g.self hc
      obtain ⟨c0, c1⟩ := g.c
      obtain ⟨f, hf, hfn⟩ := hinn.at_ hlt
      have hb : atB L.length k = true := by simp [atB]; omega
      have hv : atV L k = f := by unfold atV; rw [hb, if_pos rfl]; simpa using hf
      have hstep := all_frame hinn HWL.out hlt
      rw [hf, Int.toNat_natCast] at hstep
      have HS := Lib.hid hstep
      have HF := Lib.hid (frameOf_len (L := W) HWL.out hfn)
      clear hstep hf
      go_wp2_with fail
      refine (GHost_is S p L k f true _ g.mp hv hb).mono ?_; rintro e w' ⟨rfl, rfl⟩
      clear hv hb
      go_wp2_with fail
      refine (Frame_yes h b n W f _ g.hm hfn).mono ?_; rintro e w3 ⟨rfl, hc3, _, hb3⟩
      have ho3 := own_chg ho hc3 (by simp)
      have hs3 : Src w3 1 (some ⟨wr.heap.size, 0, none⟩) 8 8 (vals .u64 (frameOf W f)) := (SlU.of_blk hb3 HF.out).src (by simp)
      clear ho g hb3
      go_wp2_with (at_builtin; refine wpList_append_src rfl _ _ 50 rfl 0 35 i0 _ 1 8 Tryz.underlying50 hi0 hz0 hz1 hz2 rfl (by omega) _ _ _ rfl ho3 _ 8 8 _ rfl hs3 (by simp [maxLen]; omega) (by omega) (by simp) ?_
                   intro v4 w4 hown4 hc4 hv4
                   obtain ⟨A4, c4, rfl, _, _⟩ := own_form hown4)
      have hcc := (hc.trans hc3 (by simp)).trans hc4 (by intro i hi hm; have := hg i hm; omega)
      have hlt3 := hc3.size
      have hlow : ∀ i ∈ (Value.slice A4 (8 * k + 8) c4).ownBlock.toList, w.heap.size ≤ i := by
        intro i hi
        rcases hv4 with e | e
        · rw [e] at hi; exact hg i hi
        · rw [e] at hi; simp at hi; have := hc.size; omega
      go_roundw
      case rel =>
        refine ⟨k + 1, by omega, by go_num, hcc, ?_, hlow⟩
        rw [show 8 * (k + 1) = 8 * k + 8 by omega, HS.out, vals_app]
        exact hown4
      case measure => simp [intOf]; omega
    · obtain rfl : k = L.length := by omega
      go_wp2_with fail
      go_ret
      refine ⟨A, c, rfl, hc, ?_, hg⟩
      rw [all_full] at ho
      exact own_any ho (by rw [allG_len])

end Go.Proofs.YtgebfagiomcmbaaGreatDoor

namespace Go.Proofs.YtgebfagiomcmbaaGreatDoor
open Go.RowKit Go.Maps

theorem SlU.part {w : World} {b off m : Nat} {xs : List Int} (h : SlU w (some ⟨b, off, none⟩) m xs) (o n : Nat) (hn : o + n ≤ m) : SlU w (some ⟨b, off + o, none⟩) n ((xs.drop o).take n) := by
  have hl := h.len
  refine ⟨by rw [List.length_take, List.length_drop]; omega, fun h0 => ?_⟩
  obtain ⟨b', off', e, hb, hr⟩ := h.at_ (by omega)
  injection e with e; injection e with e1 e2; subst e1; subst e2
  refine ⟨b, off + o, rfl, hb, fun j u hu => ?_⟩
  rw [List.getElem?_take] at hu
  split at hu
  · rw [List.getElem?_drop] at hu
    rw [Nat.add_assoc]; exact hr _ u hu
  · cases hu

end Go.Proofs.YtgebfagiomcmbaaGreatDoor

namespace Go.Proofs.YtgebfagiomcmbaaGreatDoor
open Go.RowKit Go.Maps

theorem RGAt.apart {w : World} {S : List Nat} {p b : Nat} {L W : List Int} (h : RGAt w S p L) (hb : Blk w b 35 (u64s W)) : b ∉ S := by
  obtain ⟨v, h1, h2, rfl, _⟩ := h
  simp only [List.mem_cons, not_or]
  refine ⟨hb.type_ne h1 (by decide), fun hm => ?_⟩
  obtain ⟨cur, hc⟩ := h2.blk hm
  exact hc.type_ne hb (by decide) rfl
theorem RGAt.ok {w : World} {S : List Nat} {p : Nat} {L : List Int} (h : RGAt w S p L) : OkL L 256 := by obtain ⟨_, _, _, _, hk⟩ := h; exact hk

/-- q is the document's guest's memory: of the map p of L (its blocks S), in the host's memory h -/
structure RGuIn (w : World) (q : Nat) (S : List Nat) (p : Nat) (L : List Int) (h b n : Nat) (W : List Int) : Prop where
  st : Blk w q 137 #[.pointer (some ⟨h, 0, none⟩), .pointer (some ⟨p, 0, none⟩)]
  mp : RGAt w S p L
  hm : RMemAt w h b n W
  inn : InH n L

section
variable {w w' : World} {q p h b n : Nat} {S T : List Nat} {L W W' : List Int}
theorem RGuIn.c (g : RGuIn w q S p L h b n W) : w.cell? ⟨q, 0, none⟩ = some (.pointer (some ⟨h, 0, none⟩)) ∧ w.cell? ⟨q, 1, none⟩ = some (.pointer (some ⟨p, 0, none⟩)) := blkc2 g.st
theorem RGuIn.self (g : RGuIn w q S p L h b n W) (hc : Chg [] w w') : RGuIn w' q S p L h b n W := ⟨hc.blk g.st (by simp), g.mp.self hc, g.hm.chg hc (by simp) (by simp), g.inn⟩
theorem RGuIn.write (g : RGuIn w q S p L h b n W) (hc : Chg [b] w w') (hm : RMemAt w' h b n W') : RGuIn w' q S p L h b n W' :=
  ⟨hc.blk g.st (by have := g.st.type_ne g.hm.ws (by decide); simpa using this), g.mp.chg hc (by
    intro i hi hm; rw [List.mem_singleton] at hm; subst hm; exact g.mp.apart g.hm.ws hi), hm, g.inn⟩
theorem RGuIn.other (g : RGuIn w q S p L h b n W) (hc : Chg T w w') (h1 : q ∉ T) (h2 : ∀ i ∈ S, i ∉ T) (h3 : h ∉ T) (h4 : b ∉ T) : RGuIn w' q S p L h b n W :=
  ⟨hc.blk g.st h1, g.mp.chg hc h2, g.hm.chg hc h3 h4, g.inn⟩
theorem RGuIn.ok (g : RGuIn w q S p L h b n W) : 1 ≤ L.length ∧ L.length ≤ 64 ∧ L.Nodup := ⟨g.mp.ok.1, g.mp.ok.2.1, g.mp.ok.2.2.2.2.2⟩
end

theorem RGuNew_at (p h : Nat) (w : World) :
    Calls Tryz.prog 37 #[.pointer (some ⟨h, 0, none⟩), .pointer (some ⟨p, 0, none⟩)] w fun e w' => ∃ q, e = .returned (.pointer (some ⟨q, 0, none⟩)) ∧ Chg [] w w' ∧ Blk w' q 137 #[.pointer (some ⟨h, 0, none⟩), .pointer (some ⟨p, 0, none⟩)] ∧ w.heap.size ≤ q := by
  go_enter Tryz.func37, Tryz.ntmps37
  go_wp2
  go_ret
  exact ⟨_, rfl, (Chg.refl _ _).alloc _, Blk.new _ _ _, Nat.le_refl _⟩

/-- one word that is laid to be appended -/
theorem cell_srcU (f : Int) (w2 : World) : ∀ a, some (⟨w2.heap.size, 0, none⟩ : Addr) = some a → ∀ j u, [Value.int .u64 f][j]? = some u → (w2.alloc (.cells #[.int .u64 f] 35)).cell? (a.add j) = some u := fun a ha j u hu => by
  injection ha with ha; subst ha
  rw [add_at]
  rw [(Blk.new w2 35 #[.int .u64 f]).cell]
  simpa using hu

theorem RGuFrames_at (q : Nat) (S : List Nat) (p : Nat) (L : List Int) (h b n : Nat) (W : List Int) (w : World) (g : RGuIn w q S p L h b n W) :
    Calls Tryz.prog 73 #[.pointer (some ⟨q, 0, none⟩)] w fun e w' => e = .returned (.int .i64 L.length) ∧ w = w' := by
  obtain ⟨c0, c1⟩ := g.c
  have hg := g.mp
  clear g
  go_enter Tryz.func73, Tryz.ntmps73
  go_wp2_with fail
  refine (RGMany_at S p L _ hg).mono ?_; rintro e w' ⟨rfl, rfl⟩
  go_wp2_with fail
  go_ret
  exact ⟨rfl, rfl⟩

set_option maxHeartbeats 1000000 in
theorem RGuGet_at (q : Nat) (S : List Nat) (p : Nat) (L : List Int) (h b n : Nat) (W : List Int) (f i : Int) (w : World) (g : RGuIn w q S p L h b n W) :
    Calls Tryz.prog 63 #[.pointer (some ⟨q, 0, none⟩), .int .i64 f, .int .i64 i] w fun e w' => e = .returned (.tuple #[.int .u64 (getG n W L f i), .bool (hasG n L f i)]) ∧ w = w' := by
  obtain ⟨c0, c1⟩ := g.c
  have hg := g.mp
  have hm := g.hm
  clear g
  have e1 : getG n W L f i = if atB L.length f then getW n W (atV L f) i else 0 := rfl
  have e2 : hasG n L f i = (atB L.length f && hasW n (atV L f) i) := rfl
  have HG := RGHost_at S p L f w hg
  generalize atV L f = x at *
  generalize atB L.length f = t at *
  cases t with
  | true =>
    rw [if_pos rfl] at e1
    rw [Bool.true_and] at e2
    have E1 := Lib.hid e1; have E2 := Lib.hid e2
    clear e1 e2 hg
    go_enter Tryz.func63, Tryz.ntmps63
    go_wp2_with fail
    refine HG.mono ?_; rintro e w' ⟨rfl, rfl⟩
    go_wp2_with fail
    refine (RGet_at h b n W x i _ hm).mono ?_; rintro e w' ⟨rfl, rfl⟩
    go_wp2_with fail
    go_ret2
    exact ⟨by rw [E1.out, E2.out]; rfl, rfl⟩
  | false =>
    rw [if_neg (by decide)] at e1
    rw [Bool.false_and] at e2
    have E1 := Lib.hid e1; have E2 := Lib.hid e2
    clear e1 e2 hg
    go_enter Tryz.func63, Tryz.ntmps63
    go_wp2_with fail
    refine HG.mono ?_; rintro e w' ⟨rfl, rfl⟩
    go_wp2_with fail
    go_ret2
    exact ⟨by rw [E1.out, E2.out]; rfl, rfl⟩

set_option maxHeartbeats 1000000 in
theorem RGuSet_at (q : Nat) (S : List Nat) (p : Nat) (L : List Int) (h b n : Nat) (W : List Int) (f i v : Int) (w : World) (g : RGuIn w q S p L h b n W) :
    Calls Tryz.prog 40 #[.pointer (some ⟨q, 0, none⟩), .int .i64 f, .int .i64 i, .int .u64 v] w fun e w' => e = .returned (.bool (hasG n L f i)) ∧ Chg [b] w w' ∧ RGuIn w' q S p L h b n (setG n W L f i v) := by
  obtain ⟨c0, c1⟩ := g.c
  have hg := g.mp
  have hm := g.hm
  have hw : ∀ w' W', Chg [b] w w' → RMemAt w' h b n W' → RGuIn w' q S p L h b n W' := fun w' W' h1 h2 => g.write h1 h2
  have e1 : setG n W L f i v = if atB L.length f then setW n W (atV L f) i v else W := rfl
  have e2 : hasG n L f i = (atB L.length f && hasW n (atV L f) i) := rfl
  have HG := RGHost_at S p L f w hg
  have hself := g.write (Chg.refl [b] w) hm
  clear g
  generalize atV L f = x at *
  generalize atB L.length f = t at *
  cases t with
  | true =>
    rw [if_pos rfl] at e1
    rw [Bool.true_and] at e2
    have E1 := Lib.hid e1; have E2 := Lib.hid e2
    clear e1 e2 hg hself
    go_enter Tryz.func40, Tryz.ntmps40
    go_wp2_with fail
    refine HG.mono ?_; rintro e w' ⟨rfl, rfl⟩
    go_wp2_with fail
    refine (RSet_at h b n W x i v _ hm).mono ?_; rintro e w3 ⟨rfl, hc3, hm3⟩
    go_wp2_with fail
    go_ret
    exact ⟨by rw [E2.out]; rfl, hc3, by rw [E1.out]; exact hw _ _ hc3 hm3⟩
  | false =>
    rw [if_neg (by decide)] at e1
    rw [Bool.false_and] at e2
    have E1 := Lib.hid e1; have E2 := Lib.hid e2
    clear e1 e2 hg hm
    go_enter Tryz.func40, Tryz.ntmps40
    go_wp2_with fail
    refine HG.mono ?_; rintro e w' ⟨rfl, rfl⟩
    go_wp2_with fail
    go_ret
    exact ⟨by rw [E2.out]; rfl, Chg.refl _ _, by rw [E1.out]; exact hself⟩


theorem RGuGet_in (q : Nat) (S : List Nat) (p : Nat) (L : List Int) (h b n : Nat) (W : List Int) (k j f : Nat) (w : World) (g : RGuIn w q S p L h b n W) (hk : k < L.length) (hj : j < 8) (hf : L.getD k 0 = f) :
    Calls Tryz.prog 63 #[.pointer (some ⟨q, 0, none⟩), .int .i64 k, .int .i64 j] w fun e w' => e = .returned (.tuple #[.int .u64 (W.getD (f * 8 + j) 0), .bool true]) ∧ w = w' := by
  have h1 : getG n W L k j = W.getD (f * 8 + j) 0 := by
    rw [getG_nat g.inn hk hj]
    unfold posG
    rw [show (8 * k + j) / 8 = k by omega, show (8 * k + j) % 8 = j by omega, hf, Int.toNat_natCast]
  have h2 : hasG n L k j = true := by rw [hasG_nat g.inn]; simp; omega
  have := RGuGet_at q S p L h b n W k j w g
  rw [h1, h2] at this
  exact this
set_option maxRecDepth 100000 in
set_option maxHeartbeats 2000000 in
theorem RGuAll_at (q : Nat) (S : List Nat) (p : Nat) (L : List Int) (h b n : Nat) (W : List Int) (w : World) (g : RGuIn w q S p L h b n W) :
    Calls Tryz.prog 25 #[.pointer (some ⟨q, 0, none⟩)] w fun e w' => ∃ A c, e = .returned (.slice A (8 * L.length) c) ∧ Chg [] w w' ∧ OwnI w' 35 .u64 (.slice A (8 * L.length) c) (allG W L) ∧ ∀ i ∈ (Value.slice A (8 * L.length) c).ownBlock.toList, w.heap.size ≤ i := by
  obtain ⟨hl1, hl2, hnd⟩ := g.ok
  have hinn := g.inn
  have hWl := g.hm.len
  have HND := Lib.hid hnd; have HWL := Lib.hid hWl
  clear hnd hWl
  obtain ⟨i0, hi0, hz0, hz1, hz2⟩ := info_parts u64_info
  go_enter Tryz.func25, Tryz.ntmps25
  go_wp2_with fail
  go_loopw [3, 4] (fun v i w' => ∃ k : Nat, k ≤ L.length ∧ i = .int .i64 k ∧ Chg [] w w' ∧ w'.ownsRow 0 35 1 v (8 * k) (vals .u64 ((allG W L).take (8 * k))) ∧ (∀ i ∈ v.ownBlock.toList, w.heap.size ≤ i)) (fun _ i _ => L.length - (intOf i).toNat)
  case atStart => exact ⟨0, by omega, rfl, Chg.refl _ _, by simpa [vals] using World.ownsRow_nil _ _ _ _, by simp [Value.ownBlock]⟩
  case round =>
    obtain ⟨k, hk, rfl, hc, ho, hg⟩ := hrel
    obtain ⟨A, c, rfl, hA1, hA2⟩ := own_form ho
    have gk := g.self hc
    go_wp2_with fail
    refine (RGuFrames_at q S p L h b n W _ gk).mono ?_; rintro e w' ⟨rfl, rfl⟩
    by_cases hlt : k < L.length
    · obtain ⟨f, hf, hfn⟩ := hinn.at_ hlt
      go_wp2_with fail
      go_loopw [3, 5] (fun v i w' => ∃ j : Nat, j ≤ 8 ∧ i = .int .i64 j ∧ Chg [] w w' ∧ w'.ownsRow 0 35 1 v (8 * k + j) (vals .u64 ((allG W L).take (8 * k + j))) ∧ (∀ i ∈ v.ownBlock.toList, w.heap.size ≤ i)) (fun _ i _ => 8 - (intOf i).toNat)
      case atStart => exact ⟨0, by omega, rfl, hc, ho, hg⟩
      case round =>
        clear hc ho hg gk hA1 hA2
        obtain ⟨j, hj, rfl, hc, ho, hg⟩ := hrel
        obtain ⟨A, c, rfl, hA1, hA2⟩ := own_form ho
        have gk := g.self hc
        by_cases hj8 : j < 8
        · have hstep := all_word (W := W) hlt hj8
          rw [hf, Int.toNat_natCast] at hstep
          have HS := Lib.hid hstep
          clear hstep
          have hget := RGuGet_in q S p L h b n W k j f _ gk hlt hj8 hf
          generalize W.getD (f * 8 + j) 0 = x at *
          have HF := Lib.hid hf
          clear hf
          go_wp2_with fail
          refine hget.mono ?_; rintro e w' ⟨rfl, rfl⟩
          clear hget
          go_wp2_with (at_builtin
                       refine wpList_append_src rfl _ _ 50 rfl 0 35 i0 _ 1 8 Tryz.underlying50 hi0 hz0 hz1 hz2 rfl (by omega) (.slice A (8 * k + j) c) _ _ rfl (World.ownsRow.alloc ho _) (some ⟨wr.heap.size, 0, none⟩) 1 1 [.int .u64 x] rfl ⟨by simp, by simp [Value.oneCell'], by simp, cell_srcU _ wr⟩ (by simp [maxLen]; omega) (by omega) (by simp) ?_
                       intro v3 w3 hown3 hc3 hv3
                       obtain ⟨A3, k3, rfl, _, _⟩ := own_form hown3)
          go_roundw
          case rel =>
            refine ⟨j + 1, by omega, by go_num, (hc.alloc _).trans hc3 (by intro i hi hm; have := hg i hm; omega), ?_, ?_⟩
            · rw [HS.out, vals_app, vals_one]
              exact hown3
            · intro i hi
              rcases hv3 with e | e
              · rw [e] at hi; exact hg i hi
              · rw [e] at hi; simp at hi; have := hc.size; omega
          case measure => simp [intOf]; omega
        · obtain rfl : j = 8 := by omega
          go_wp2_with fail
          go_roundw
          case rel => exact ⟨k + 1, by omega, by go_num, hc, ho, hg⟩
          case measure => simp [intOf]; omega
    · obtain rfl : k = L.length := by omega
      go_wp2_with fail
      go_ret
      refine ⟨A, c, rfl, hc, ?_, hg⟩
      rw [all_full] at ho
      exact own_any ho (by rw [allG_len])

end Go.Proofs.YtgebfagiomcmbaaGreatDoor
