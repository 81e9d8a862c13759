/-
 GuestP, GuestB in one text.
-/
import Derived.Test.YtmbgepafpcbakaaGreatDoorG1K
import Derived.Test.YtmbgepafpcbakaaGreatDoorG3K
namespace Go.Proofs.YtmbgepafpcbakaaGreatDoor
open Go.RowKit
def posG (L : List Int) (k : Nat) : Nat := (L.getD (k / 8) 0).toNat * 8 + k % 8
def allG (W L : List Int) : List Int := (List.range (8 * L.length)).map fun k => W.getD (posG L k) 0
def hasG (n : Nat) (L : List Int) (g i : Int) : Bool := atB L.length g && hasW n (atV L g) i
def getG (n : Nat) (W L : List Int) (g i : Int) : Int := if atB L.length g then getW n W (atV L g) i else 0
def setG (n : Nat) (W L : List Int) (g i v : Int) : List Int := if atB L.length g then setW n W (atV L g) i v else W
def InH (n : Nat) (L : List Int) : Prop := ∀ x ∈ L, 0 ≤ x ∧ x < n
section
variable {n : Nat} {W L M xs : List Int}
theorem InH.at_ (h : InH n L) {k : Nat} (hk : k < L.length) : ∃ f : Nat, L.getD k 0 = f ∧ f < n := by
 have hm : L.getD k 0 ∈ L := by
  simp only [List.getD_eq_getElem?_getD, List.getElem?_eq_getElem hk, Option.getD_some]; exact List.getElem_mem hk
 obtain ⟨h0, h1⟩ := h _ hm
 obtain ⟨f, hf⟩ := Int.eq_ofNat_of_zero_le h0
 exact ⟨f, hf, by omega⟩
theorem posG_lt (h : InH n L) {k : Nat} (hk : k < 8 * L.length) : posG L k < 8 * n := by
 obtain ⟨f, hf, hn⟩ := h.at_ (show k / 8 < L.length by omega)
 unfold posG; rw [hf]; simp; omega
theorem posG_div (h : InH n L) {k : Nat} (hk : k < 8 * L.length) : ((posG L k / 8 : Nat) : Int) = L.getD (k / 8) 0 := by
 obtain ⟨f, hf, hn⟩ := h.at_ (show k / 8 < L.length by omega)
 unfold posG; rw [hf]; simp; omega
theorem allG_len (W L : List Int) : (allG W L).length = 8 * L.length := by simp [allG]
theorem allG_get (W : List Int) {k : Nat} (hk : k < 8 * L.length) : (allG W L).getD k 0 = W.getD (posG L k) 0 := by
 unfold allG; simp [List.getD_eq_getElem?_getD, hk]
theorem list_getD_ext {A B : List Int} (hl : A.length = B.length) (h : ∀ k, k < A.length → A.getD k 0 = B.getD k 0) : A = B := by
 apply List.ext_getElem hl
 intro i h1 h2
 have := h i h1
 simpa [List.getD_eq_getElem?_getD, List.getElem?_eq_getElem h1, List.getElem?_eq_getElem h2] using this
theorem frameOf_getD (W : List Int) {f k : Nat} (hk : k < 8) : (frameOf W f).getD k 0 = W.getD (f * 8 + k) 0 := by
 simp only [List.getD_eq_getElem?_getD, frameOf_get k hk]
theorem all_frame (h : InH n L) (hW : W.length = 8 * n) {k : Nat} (hk : k < L.length) : (allG W L).take (8 * k + 8) = (allG W L).take (8 * k) ++ frameOf W (L.getD k 0).toNat := by
 obtain ⟨f, hf, hn⟩ := h.at_ hk
 rw [List.take_add, hf, Int.toNat_natCast]
 congr 1
 have hl := frameOf_len hW hn
 refine list_getD_ext ?_ fun j hj => ?_
 ·rw [hl, List.length_take, List.length_drop, allG_len]; omega
 rw [List.length_take, List.length_drop, allG_len] at hj
 have hj8 : j < 8 := by omega
 rw [frameOf_getD W hj8]
 have e : ((List.drop (8 * k) (allG W L)).take 8).getD j 0 = (allG W L).getD (8 * k + j) 0 := by
  simp only [List.getD_eq_getElem?_getD, List.getElem?_take, if_pos hj8, List.getElem?_drop]
 rw [e, allG_get W (by omega)]
 unfold posG
 rw [show (8 * k + j) / 8 = k by omega, show (8 * k + j) % 8 = j by omega, hf, Int.toNat_natCast]
theorem all_full (W L : List Int) : (allG W L).take (8 * L.length) = allG W L := by rw [← allG_len W L, List.take_length]
theorem setG_len (n : Nat) (W L : List Int) (g i v : Int) : (setG n W L g i v).length = W.length := by unfold setG; split; exact setW_len _ _ _ _ _; rfl
theorem getD_set_ne (W : List Int) {p q : Nat} (hn : q ≠ p) (v : Int) : (W.set q v).getD p 0 = W.getD p 0 := by simp [List.getD_eq_getElem?_getD, hn]
end
end Go.Proofs.YtmbgepafpcbakaaGreatDoor
namespace Go.Proofs.YtmbgepafpcbakaaGreatDoor
open Go.RowKit Go.Maps
theorem GAt.apart {w : World} {S : List Nat} {p b : Nat} {L W : List Int} (h : GAt w S p L) (hb : Blk w b 149 (u64s W)) : b ∉ S := by
 obtain ⟨m, v, h1, rfl, _⟩ := h
 simp only [List.mem_cons, not_or]
 refine ⟨hb.type_ne h1.st (by decide), fun e => h1.mp.blk_ne hb e.symm, fun hm => ?_⟩
 obtain ⟨cur, hc⟩ := h1.bk.blk hm
 exact hc.type_ne hb (by decide) rfl
structure GuIn (w : World) (q : Nat) (S : List Nat) (p : Nat) (L : List Int) (h b n : Nat) (W : List Int) : Prop where
 st : Blk w q 169 #[.pointer (some ⟨p, 0, none⟩), .pointer (some ⟨h, 0, none⟩)]
 mp : GAt w S p L
 hm : MemAt w h b n W
 inn : InH n L
section
variable {w w' : World} {q p h b n : Nat} {S T : List Nat} {L W W' : List Int}
theorem GuIn.c (g : GuIn w q S p L h b n W) : w.cell? ⟨q, 0, none⟩ = some (.pointer (some ⟨p, 0, none⟩)) ∧ w.cell? ⟨q, 1, none⟩ = some (.pointer (some ⟨h, 0, none⟩)) := blkc2 g.st
theorem GuIn.self (g : GuIn w q S p L h b n W) (hc : Chg [] w w') : GuIn w' q S p L h b n W := ⟨hc.blk g.st (by simp), g.mp.self hc, g.hm.chg hc (by simp) (by simp), g.inn⟩
theorem GuIn.write (g : GuIn w q S p L h b n W) (hc : Chg [b] w w') (hm : MemAt w' h b n W') : GuIn w' q S p L h b n W' :=
 ⟨hc.blk g.st (by have := g.st.type_ne g.hm.ws (by decide); simpa using this), g.mp.chg hc (by
  intro i hi hm; rw [List.mem_singleton] at hm; subst hm; exact g.mp.apart g.hm.ws hi), hm, g.inn⟩
theorem GuIn.ok (g : GuIn w q S p L h b n W) : 1 ≤ L.length ∧ L.length ≤ 64 ∧ L.Nodup := ⟨g.mp.ok.1, g.mp.ok.2.1, g.mp.ok.2.2.2.2.2⟩
end
theorem GuNew_at (p h : Nat) (w : World) :
  Calls Tryz.prog 50 #[.pointer (some ⟨h, 0, none⟩), .pointer (some ⟨p, 0, none⟩)] w fun e w' => ∃ q, e = .returned (.pointer (some ⟨q, 0, none⟩)) ∧ Chg [] w w' ∧ Blk w' q 169 #[.pointer (some ⟨p, 0, none⟩), .pointer (some ⟨h, 0, none⟩)] ∧ w.heap.size ≤ q := by
 go_enter Tryz.func50, Tryz.ntmps50
 go_wp2
 go_ret
 exact ⟨_, rfl, (Chg.refl _ _).alloc _, Blk.new _ _ _, Nat.le_refl _⟩
theorem GuFrames_at (q : Nat) (S : List Nat) (p : Nat) (L : List Int) (h b n : Nat) (W : List Int) (w : World) (g : GuIn w q S p L h b n W) :
  Calls Tryz.prog 83 #[.pointer (some ⟨q, 0, none⟩)] w fun e w' => e = .returned (.int .i64 L.length) ∧ w = w' := by
 obtain ⟨c0, c1⟩ := g.c
 have hg := g.mp
 clear g
 go_enter Tryz.func83, Tryz.ntmps83
 go_wp2_with fail
 refine (GMany_at S p L _ hg).mono ?_; rintro e w' ⟨rfl, rfl⟩
 go_wp2_with fail
 go_ret
 exact ⟨rfl, rfl⟩
set_option maxHeartbeats 1000000 in
theorem GuGet_at (q : Nat) (S : List Nat) (p : Nat) (L : List Int) (h b n : Nat) (W : List Int) (f i : Int) (w : World) (g : GuIn w q S p L h b n W) :
  Calls Tryz.prog 153 #[.pointer (some ⟨q, 0, none⟩), .int .i64 f, .int .i64 i] w fun e w' => e = .returned (.tuple #[.int .u64 (getG n W L f i), .bool (hasG n L f i)]) ∧ w = w' := by
 obtain ⟨c0, c1⟩ := g.c
 have hg := g.mp
 have hm := g.hm
 clear g
 have e1 : getG n W L f i = if atB L.length f then getW n W (atV L f) i else 0 := rfl
 have e2 : hasG n L f i = (atB L.length f && hasW n (atV L f) i) := rfl
 have HG := GHost_at S p L f w hg
 generalize atV L f = x at *
 generalize atB L.length f = t at *
 cases t with
 | true =>
  rw [if_pos rfl] at e1
  rw [Bool.true_and] at e2
  have E1 := Lib.hid e1; have E2 := Lib.hid e2
  clear e1 e2 hg
  go_enter Tryz.func153, Tryz.ntmps153
  go_wp2_with fail
  refine HG.mono ?_; rintro e w' ⟨rfl, rfl⟩
  go_wp2_with fail
  refine (Get_at h b n W x i _ hm).mono ?_; rintro e w' ⟨rfl, rfl⟩
  go_wp2_with fail
  go_ret2
  exact ⟨by rw [E1.out, E2.out]; rfl, rfl⟩
 | false =>
  rw [if_neg (by decide)] at e1
  rw [Bool.false_and] at e2
  have E1 := Lib.hid e1; have E2 := Lib.hid e2
  clear e1 e2 hg
  go_enter Tryz.func153, Tryz.ntmps153
  go_wp2_with fail
  refine HG.mono ?_; rintro e w' ⟨rfl, rfl⟩
  go_wp2_with fail
  go_ret2
  exact ⟨by rw [E1.out, E2.out]; rfl, rfl⟩
set_option maxHeartbeats 1000000 in
theorem GuSet_at (q : Nat) (S : List Nat) (p : Nat) (L : List Int) (h b n : Nat) (W : List Int) (f i v : Int) (w : World) (g : GuIn w q S p L h b n W) :
  Calls Tryz.prog 52 #[.pointer (some ⟨q, 0, none⟩), .int .i64 f, .int .i64 i, .int .u64 v] w fun e w' => e = .returned (.bool (hasG n L f i)) ∧ Chg [b] w w' ∧ GuIn w' q S p L h b n (setG n W L f i v) := by
 obtain ⟨c0, c1⟩ := g.c
 have hg := g.mp
 have hm := g.hm
 have hw : ∀ w' W', Chg [b] w w' → MemAt w' h b n W' → GuIn w' q S p L h b n W' := fun w' W' h1 h2 => g.write h1 h2
 have e1 : setG n W L f i v = if atB L.length f then setW n W (atV L f) i v else W := rfl
 have e2 : hasG n L f i = (atB L.length f && hasW n (atV L f) i) := rfl
 have HG := GHost_at S p L f w hg
 have hself := g.write (Chg.refl [b] w) hm
 clear g
 generalize atV L f = x at *
 generalize atB L.length f = t at *
 cases t with
 | true =>
  rw [if_pos rfl] at e1
  rw [Bool.true_and] at e2
  have E1 := Lib.hid e1; have E2 := Lib.hid e2
  clear e1 e2 hg hself
  go_enter Tryz.func52, Tryz.ntmps52
  go_wp2_with fail
  refine HG.mono ?_; rintro e w' ⟨rfl, rfl⟩
  go_wp2_with fail
  refine (Set_at h b n W x i v _ hm).mono ?_; rintro e w3 ⟨rfl, hc3, hm3⟩
  go_wp2_with fail
  go_ret
  exact ⟨by rw [E2.out]; rfl, hc3, by rw [E1.out]; exact hw _ _ hc3 hm3⟩
 | false =>
  rw [if_neg (by decide)] at e1
  rw [Bool.false_and] at e2
  have E1 := Lib.hid e1; have E2 := Lib.hid e2
  clear e1 e2 hg hm
  go_enter Tryz.func52, Tryz.ntmps52
  go_wp2_with fail
  refine HG.mono ?_; rintro e w' ⟨rfl, rfl⟩
  go_wp2_with fail
  go_ret
  exact ⟨by rw [E2.out]; rfl, Chg.refl _ _, by rw [E1.out]; exact hself⟩
end Go.Proofs.YtmbgepafpcbakaaGreatDoor
