/-
 GuestC, GuestD, GuestR in one text.
-/
import Derived.Test.YtgjfidjhbkaobaaGreatG7K
import Derived.Test.YtgjfidjhbkaobaaGreatG3K
namespace Go.Proofs.YtgjfidjhbkaobaaGreat
open Go.RowKit Go.Maps
theorem RGAt.apart {w : World} {S : List Nat} {p b : Nat} {L W : List Int} (h : RGAt w S p L) (hb : Blk w b 36 (u64s W)) : b ∉ S := by
 obtain ⟨v, h1, h2, rfl, _⟩ := h
 simp only [List.mem_cons, not_or]
 refine ⟨hb.type_ne h1 (by decide), fun hm => ?_⟩
 obtain ⟨cur, hc⟩ := h2.blk hm
 exact hc.type_ne hb (by decide) rfl
structure RGuIn (w : World) (q : Nat) (S : List Nat) (p : Nat) (L : List Int) (h b n : Nat) (W : List Int) : Prop where
 st : Blk w q 147 #[.pointer (some ⟨h, 0, none⟩), .pointer (some ⟨p, 0, none⟩)]
 mp : RGAt w S p L
 hm : RMemAt w h b n W
 inn : InH n L
section
variable {w w' : World} {q p h b n : Nat} {S T : List Nat} {L W W' : List Int}
theorem RGuIn.c (g : RGuIn w q S p L h b n W) : w.cell? ⟨q, 0, none⟩ = some (.pointer (some ⟨h, 0, none⟩)) ∧ w.cell? ⟨q, 1, none⟩ = some (.pointer (some ⟨p, 0, none⟩)) := blkc2 g.st
theorem RGuIn.write (g : RGuIn w q S p L h b n W) (hc : Chg [b] w w') (hm : RMemAt w' h b n W') : RGuIn w' q S p L h b n W' :=
 ⟨hc.blk g.st (by have := g.st.type_ne g.hm.ws (by decide); simpa using this), g.mp.chg hc (by
  intro i hi hm; rw [List.mem_singleton] at hm; subst hm; exact g.mp.apart g.hm.ws hi), hm, g.inn⟩
end
theorem RGuNew_at (p h : Nat) (w : World) :
  Calls Tryz.prog 44 #[.pointer (some ⟨h, 0, none⟩), .pointer (some ⟨p, 0, none⟩)] w fun e w' => ∃ q, e = .returned (.pointer (some ⟨q, 0, none⟩)) ∧ Chg [] w w' ∧ Blk w' q 147 #[.pointer (some ⟨h, 0, none⟩), .pointer (some ⟨p, 0, none⟩)] ∧ w.heap.size ≤ q := by
 go_enter Tryz.func44, Tryz.ntmps44
 go_wp2
 go_ret
 exact ⟨_, rfl, (Chg.refl _ _).alloc _, Blk.new _ _ _, Nat.le_refl _⟩
set_option maxHeartbeats 1000000 in
theorem RGuGet_at (q : Nat) (S : List Nat) (p : Nat) (L : List Int) (h b n : Nat) (W : List Int) (f i : Int) (w : World) (g : RGuIn w q S p L h b n W) :
  Calls Tryz.prog 106 #[.pointer (some ⟨q, 0, none⟩), .int .i64 f, .int .i64 i] w fun e w' => e = .returned (.tuple #[.int .u64 (getG n W L f i), .bool (hasG n L f i)]) ∧ w = w' := by
 obtain ⟨c0, c1⟩ := g.c
 have hg := g.mp
 have hm := g.hm
 clear g
 have e1 : getG n W L f i = if atB L.length f then getW n W (atV L f) i else 0 := rfl
 have e2 : hasG n L f i = (atB L.length f && hasW n (atV L f) i) := rfl
 have HG := RGHost_at S p L f w hg
 generalize atV L f = x at *
 generalize atB L.length f = t at *
 cases t with
 | true =>
  rw [if_pos rfl] at e1
  rw [Bool.true_and] at e2
  have E1 := Lib.hid e1; have E2 := Lib.hid e2
  clear e1 e2 hg
  go_enter Tryz.func106, Tryz.ntmps106
  go_wp2_with fail
  refine HG.mono ?_; rintro e w' ⟨rfl, rfl⟩
  go_wp2_with fail
  refine (RGet_at h b n W x i _ hm).mono ?_; rintro e w' ⟨rfl, rfl⟩
  go_wp2_with fail
  go_ret2
  exact ⟨by rw [E1.out, E2.out]; rfl, rfl⟩
 | false =>
  rw [if_neg (by decide)] at e1
  rw [Bool.false_and] at e2
  have E1 := Lib.hid e1; have E2 := Lib.hid e2
  clear e1 e2 hg
  go_enter Tryz.func106, Tryz.ntmps106
  go_wp2_with fail
  refine HG.mono ?_; rintro e w' ⟨rfl, rfl⟩
  go_wp2_with fail
  go_ret2
  exact ⟨by rw [E1.out, E2.out]; rfl, rfl⟩
set_option maxHeartbeats 1000000 in
theorem RGuSet_at (q : Nat) (S : List Nat) (p : Nat) (L : List Int) (h b n : Nat) (W : List Int) (f i v : Int) (w : World) (g : RGuIn w q S p L h b n W) :
  Calls Tryz.prog 47 #[.pointer (some ⟨q, 0, none⟩), .int .i64 f, .int .i64 i, .int .u64 v] w fun e w' => e = .returned (.bool (hasG n L f i)) ∧ Chg [b] w w' ∧ RGuIn w' q S p L h b n (setG n W L f i v) := by
 obtain ⟨c0, c1⟩ := g.c
 have hg := g.mp
 have hm := g.hm
 have hw : ∀ w' W', Chg [b] w w' → RMemAt w' h b n W' → RGuIn w' q S p L h b n W' := fun w' W' h1 h2 => g.write h1 h2
 have e1 : setG n W L f i v = if atB L.length f then setW n W (atV L f) i v else W := rfl
 have e2 : hasG n L f i = (atB L.length f && hasW n (atV L f) i) := rfl
 have HG := RGHost_at S p L f w hg
 have hself := g.write (Chg.refl [b] w) hm
 clear g
 generalize atV L f = x at *
 generalize atB L.length f = t at *
 cases t with
 | true =>
  rw [if_pos rfl] at e1
  rw [Bool.true_and] at e2
  have E1 := Lib.hid e1; have E2 := Lib.hid e2
  clear e1 e2 hg hself
  go_enter Tryz.func47, Tryz.ntmps47
  go_wp2_with fail
  refine HG.mono ?_; rintro e w' ⟨rfl, rfl⟩
  go_wp2_with fail
  refine (RSet_at h b n W x i v _ hm).mono ?_; rintro e w3 ⟨rfl, hc3, hm3⟩
  go_wp2_with fail
  go_ret
  exact ⟨by rw [E2.out]; rfl, hc3, by rw [E1.out]; exact hw _ _ hc3 hm3⟩
 | false =>
  rw [if_neg (by decide)] at e1
  rw [Bool.false_and] at e2
  have E1 := Lib.hid e1; have E2 := Lib.hid e2
  clear e1 e2 hg hm
  go_enter Tryz.func47, Tryz.ntmps47
  go_wp2_with fail
  refine HG.mono ?_; rintro e w' ⟨rfl, rfl⟩
  go_wp2_with fail
  go_ret
  exact ⟨by rw [E2.out]; rfl, Chg.refl _ _, by rw [E1.out]; exact hself⟩
end Go.Proofs.YtgjfidjhbkaobaaGreat
