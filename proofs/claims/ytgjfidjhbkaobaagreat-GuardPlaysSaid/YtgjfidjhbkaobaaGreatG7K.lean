/-
 GuestP, GuestB in one text.
-/
import Derived.Test.YtgjfidjhbkaobaaGreatG1K
import Derived.Test.YtgjfidjhbkaobaaGreatG3K
namespace Go.Proofs.YtgjfidjhbkaobaaGreat
open Go.RowKit
def hasG (n : Nat) (L : List Int) (g i : Int) : Bool := atB L.length g && hasW n (atV L g) i
def getG (n : Nat) (W L : List Int) (g i : Int) : Int := if atB L.length g then getW n W (atV L g) i else 0
def setG (n : Nat) (W L : List Int) (g i v : Int) : List Int := if atB L.length g then setW n W (atV L g) i v else W
def InH (n : Nat) (L : List Int) : Prop := ∀ x ∈ L, 0 ≤ x ∧ x < n
section
variable {n : Nat} {W L M xs : List Int}
theorem setG_len (n : Nat) (W L : List Int) (g i v : Int) : (setG n W L g i v).length = W.length := by unfold setG; split; exact setW_len _ _ _ _ _; rfl
theorem getD_set_ne (W : List Int) {p q : Nat} (hn : q ≠ p) (v : Int) : (W.set q v).getD p 0 = W.getD p 0 := by simp [List.getD_eq_getElem?_getD, hn]
end
end Go.Proofs.YtgjfidjhbkaobaaGreat
namespace Go.Proofs.YtgjfidjhbkaobaaGreat
open Go.RowKit Go.Maps
theorem GAt.apart {w : World} {S : List Nat} {p b : Nat} {L W : List Int} (h : GAt w S p L) (hb : Blk w b 117 (u64s W)) : b ∉ S := by
 obtain ⟨m, v, h1, rfl, _⟩ := h
 simp only [List.mem_cons, not_or]
 refine ⟨hb.type_ne h1.st (by decide), fun e => h1.mp.blk_ne hb e.symm, fun hm => ?_⟩
 obtain ⟨cur, hc⟩ := h1.bk.blk hm
 exact hc.type_ne hb (by decide) rfl
structure GuIn (w : World) (q : Nat) (S : List Nat) (p : Nat) (L : List Int) (h b n : Nat) (W : List Int) : Prop where
 st : Blk w q 142 #[.pointer (some ⟨p, 0, none⟩), .pointer (some ⟨h, 0, none⟩)]
 mp : GAt w S p L
 hm : MemAt w h b n W
 inn : InH n L
section
variable {w w' : World} {q p h b n : Nat} {S T : List Nat} {L W W' : List Int}
theorem GuIn.c (g : GuIn w q S p L h b n W) : w.cell? ⟨q, 0, none⟩ = some (.pointer (some ⟨p, 0, none⟩)) ∧ w.cell? ⟨q, 1, none⟩ = some (.pointer (some ⟨h, 0, none⟩)) := blkc2 g.st
theorem GuIn.write (g : GuIn w q S p L h b n W) (hc : Chg [b] w w') (hm : MemAt w' h b n W') : GuIn w' q S p L h b n W' :=
 ⟨hc.blk g.st (by have := g.st.type_ne g.hm.ws (by decide); simpa using this), g.mp.chg hc (by
  intro i hi hm; rw [List.mem_singleton] at hm; subst hm; exact g.mp.apart g.hm.ws hi), hm, g.inn⟩
end
theorem GuNew_at (p h : Nat) (w : World) :
  Calls Tryz.prog 39 #[.pointer (some ⟨h, 0, none⟩), .pointer (some ⟨p, 0, none⟩)] w fun e w' => ∃ q, e = .returned (.pointer (some ⟨q, 0, none⟩)) ∧ Chg [] w w' ∧ Blk w' q 142 #[.pointer (some ⟨p, 0, none⟩), .pointer (some ⟨h, 0, none⟩)] ∧ w.heap.size ≤ q := by
 go_enter Tryz.func39, Tryz.ntmps39
 go_wp2
 go_ret
 exact ⟨_, rfl, (Chg.refl _ _).alloc _, Blk.new _ _ _, Nat.le_refl _⟩
set_option maxHeartbeats 1000000 in
theorem GuGet_at (q : Nat) (S : List Nat) (p : Nat) (L : List Int) (h b n : Nat) (W : List Int) (f i : Int) (w : World) (g : GuIn w q S p L h b n W) :
  Calls Tryz.prog 125 #[.pointer (some ⟨q, 0, none⟩), .int .i64 f, .int .i64 i] w fun e w' => e = .returned (.tuple #[.int .u64 (getG n W L f i), .bool (hasG n L f i)]) ∧ w = w' := by
 obtain ⟨c0, c1⟩ := g.c
 have hg := g.mp
 have hm := g.hm
 clear g
 have e1 : getG n W L f i = if atB L.length f then getW n W (atV L f) i else 0 := rfl
 have e2 : hasG n L f i = (atB L.length f && hasW n (atV L f) i) := rfl
 have HG := GHost_at S p L f w hg
 generalize atV L f = x at *
 generalize atB L.length f = t at *
 cases t with
 | true =>
  rw [if_pos rfl] at e1
  rw [Bool.true_and] at e2
  have E1 := Lib.hid e1; have E2 := Lib.hid e2
  clear e1 e2 hg
  go_enter Tryz.func125, Tryz.ntmps125
  go_wp2_with fail
  refine HG.mono ?_; rintro e w' ⟨rfl, rfl⟩
  go_wp2_with fail
  refine (Get_at h b n W x i _ hm).mono ?_; rintro e w' ⟨rfl, rfl⟩
  go_wp2_with fail
  go_ret2
  exact ⟨by rw [E1.out, E2.out]; rfl, rfl⟩
 | false =>
  rw [if_neg (by decide)] at e1
  rw [Bool.false_and] at e2
  have E1 := Lib.hid e1; have E2 := Lib.hid e2
  clear e1 e2 hg
  go_enter Tryz.func125, Tryz.ntmps125
  go_wp2_with fail
  refine HG.mono ?_; rintro e w' ⟨rfl, rfl⟩
  go_wp2_with fail
  go_ret2
  exact ⟨by rw [E1.out, E2.out]; rfl, rfl⟩
set_option maxHeartbeats 1000000 in
theorem GuSet_at (q : Nat) (S : List Nat) (p : Nat) (L : List Int) (h b n : Nat) (W : List Int) (f i v : Int) (w : World) (g : GuIn w q S p L h b n W) :
  Calls Tryz.prog 41 #[.pointer (some ⟨q, 0, none⟩), .int .i64 f, .int .i64 i, .int .u64 v] w fun e w' => e = .returned (.bool (hasG n L f i)) ∧ Chg [b] w w' ∧ GuIn w' q S p L h b n (setG n W L f i v) := by
 obtain ⟨c0, c1⟩ := g.c
 have hg := g.mp
 have hm := g.hm
 have hw : ∀ w' W', Chg [b] w w' → MemAt w' h b n W' → GuIn w' q S p L h b n W' := fun w' W' h1 h2 => g.write h1 h2
 have e1 : setG n W L f i v = if atB L.length f then setW n W (atV L f) i v else W := rfl
 have e2 : hasG n L f i = (atB L.length f && hasW n (atV L f) i) := rfl
 have HG := GHost_at S p L f w hg
 have hself := g.write (Chg.refl [b] w) hm
 clear g
 generalize atV L f = x at *
 generalize atB L.length f = t at *
 cases t with
 | true =>
  rw [if_pos rfl] at e1
  rw [Bool.true_and] at e2
  have E1 := Lib.hid e1; have E2 := Lib.hid e2
  clear e1 e2 hg hself
  go_enter Tryz.func41, Tryz.ntmps41
  go_wp2_with fail
  refine HG.mono ?_; rintro e w' ⟨rfl, rfl⟩
  go_wp2_with fail
  refine (Set_at h b n W x i v _ hm).mono ?_; rintro e w3 ⟨rfl, hc3, hm3⟩
  go_wp2_with fail
  go_ret
  exact ⟨by rw [E2.out]; rfl, hc3, by rw [E1.out]; exact hw _ _ hc3 hm3⟩
 | false =>
  rw [if_neg (by decide)] at e1
  rw [Bool.false_and] at e2
  have E1 := Lib.hid e1; have E2 := Lib.hid e2
  clear e1 e2 hg hm
  go_enter Tryz.func41, Tryz.ntmps41
  go_wp2_with fail
  refine HG.mono ?_; rintro e w' ⟨rfl, rfl⟩
  go_wp2_with fail
  go_ret
  exact ⟨by rw [E2.out]; rfl, Chg.refl _ _, by rw [E1.out]; exact hself⟩
end Go.Proofs.YtgjfidjhbkaobaaGreat
