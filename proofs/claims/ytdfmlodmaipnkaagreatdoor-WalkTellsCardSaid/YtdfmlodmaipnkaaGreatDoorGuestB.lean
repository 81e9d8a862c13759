/-
  The contracts of guest.
-/
import Derived.Test.YtdfmlodmaipnkaaGreatDoorGuestP
import Derived.Test.YtdfmlodmaipnkaaGreatDoorGmapR
namespace Go.Proofs.YtdfmlodmaipnkaaGreatDoor
open Go.RowKit Go.Maps

theorem GAt.apart {w : World} {S : List Nat} {p b : Nat} {L W : List Int} (h : GAt w S p L) (hb : Blk w b 123 (u64s W)) : b ∉ S := by
  obtain ⟨m, v, h1, rfl, _⟩ := h
  simp only [List.mem_cons, not_or]
  refine ⟨hb.type_ne h1.st (by decide), fun e => h1.mp.blk_ne hb e.symm, fun hm => ?_⟩
  obtain ⟨cur, hc⟩ := h1.bk.blk hm
  exact hc.type_ne hb (by decide) rfl
theorem GAt.apartR {w : World} {S : List Nat} {p b : Nat} {L W : List Int} (h : GAt w S p L) (hb : Blk w b 45 (u64s W)) : b ∉ S := by
  obtain ⟨m, v, h1, rfl, _⟩ := h
  simp only [List.mem_cons, not_or]
  refine ⟨hb.type_ne h1.st (by decide), fun e => h1.mp.blk_ne hb e.symm, fun hm => ?_⟩
  obtain ⟨cur, hc⟩ := h1.bk.blk hm
  exact hc.type_ne hb (by decide) rfl

/-- q is a guest's memory: of the map p of L (its blocks S), in the host's memory h -/
structure GuIn (w : World) (q : Nat) (S : List Nat) (p : Nat) (L : List Int) (h b n : Nat) (W : List Int) : Prop where
  st : Blk w q 91 #[.pointer (some ⟨p, 0, none⟩), .pointer (some ⟨h, 0, none⟩)]
  mp : GAt w S p L
  hm : MemAt w h b n W
  inn : InH n L

section
variable {w w' : World} {q p h b n : Nat} {S T : List Nat} {L W W' : List Int}
theorem GuIn.c (g : GuIn w q S p L h b n W) : w.cell? ⟨q, 0, none⟩ = some (.pointer (some ⟨p, 0, none⟩)) ∧ w.cell? ⟨q, 1, none⟩ = some (.pointer (some ⟨h, 0, none⟩)) := blkc2 g.st
theorem GuIn.self (g : GuIn w q S p L h b n W) (hc : Chg [] w w') : GuIn w' q S p L h b n W := ⟨hc.blk g.st (by simp), g.mp.self hc, g.hm.chg hc (by simp) (by simp), g.inn⟩
theorem GuIn.write (g : GuIn w q S p L h b n W) (hc : Chg [b] w w') (hm : MemAt w' h b n W') : GuIn w' q S p L h b n W' :=
  ⟨hc.blk g.st (by have := g.st.type_ne g.hm.ws (by decide); simpa using this), g.mp.chg hc (by
    intro i hi hm; rw [List.mem_singleton] at hm; subst hm; exact g.mp.apart g.hm.ws hi), hm, g.inn⟩
theorem GuIn.other (g : GuIn w q S p L h b n W) (hc : Chg T w w') (h1 : q ∉ T) (h2 : ∀ i ∈ S, i ∉ T) (h3 : h ∉ T) (h4 : b ∉ T) : GuIn w' q S p L h b n W :=
  ⟨hc.blk g.st h1, g.mp.chg hc h2, g.hm.chg hc h3 h4, g.inn⟩
theorem GuIn.ok (g : GuIn w q S p L h b n W) : 1 ≤ L.length ∧ L.length ≤ 64 ∧ L.Nodup := ⟨g.mp.ok.1, g.mp.ok.2.1, g.mp.ok.2.2.2.2.2⟩
end

theorem GuNew_at (p h : Nat) (w : World) :
    Calls Tryz.prog 20 #[.pointer (some ⟨h, 0, none⟩), .pointer (some ⟨p, 0, none⟩)] w fun e w' => ∃ q, e = .returned (.pointer (some ⟨q, 0, none⟩)) ∧ Chg [] w w' ∧ Blk w' q 91 #[.pointer (some ⟨p, 0, none⟩), .pointer (some ⟨h, 0, none⟩)] ∧ w.heap.size ≤ q := by
  go_enter Tryz.func20, Tryz.ntmps20
  go_wp2
  go_ret
  exact ⟨_, rfl, (Chg.refl _ _).alloc _, Blk.new _ _ _, Nat.le_refl _⟩

theorem GuFrames_at (q : Nat) (S : List Nat) (p : Nat) (L : List Int) (h b n : Nat) (W : List Int) (w : World) (g : GuIn w q S p L h b n W) :
    Calls Tryz.prog 42 #[.pointer (some ⟨q, 0, none⟩)] w fun e w' => e = .returned (.int .i64 L.length) ∧ w = w' := by
  obtain ⟨c0, c1⟩ := g.c
  have hg := g.mp
  clear g
  go_enter Tryz.func42, Tryz.ntmps42
  go_wp2_with fail
  refine (GMany_at S p L _ hg).mono ?_; rintro e w' ⟨rfl, rfl⟩
  go_wp2_with fail
  go_ret
  exact ⟨rfl, rfl⟩

set_option maxHeartbeats 1000000 in
theorem GuGet_at (q : Nat) (S : List Nat) (p : Nat) (L : List Int) (h b n : Nat) (W : List Int) (f i : Int) (w : World) (g : GuIn w q S p L h b n W) :
    Calls Tryz.prog 17 #[.pointer (some ⟨q, 0, none⟩), .int .i64 f, .int .i64 i] w fun e w' => e = .returned (.tuple #[.int .u64 (getG n W L f i), .bool (hasG n L f i)]) ∧ w = w' := by
  obtain ⟨c0, c1⟩ := g.c
  have hg := g.mp
  have hm := g.hm
  clear g
  have e1 : getG n W L f i = if atB L.length f then getW n W (atV L f) i else 0 := rfl
  have e2 : hasG n L f i = (atB L.length f && hasW n (atV L f) i) := rfl
  have HG := GHost_at S p L f w hg
  generalize atV L f = x at *
  generalize atB L.length f = t at *
  cases t with
  | true =>
    rw [if_pos rfl] at e1
    rw [Bool.true_and] at e2
    have E1 := Lib.hid e1; have E2 := Lib.hid e2
    clear e1 e2 hg
    go_enter Tryz.func17, Tryz.ntmps17
    go_wp2_with fail
    refine HG.mono ?_; rintro e w' ⟨rfl, rfl⟩
    go_wp2_with fail
    refine (Get_at h b n W x i _ hm).mono ?_; rintro e w' ⟨rfl, rfl⟩
    go_wp2_with fail
    go_ret2
    exact ⟨by rw [E1.out, E2.out]; rfl, rfl⟩
  | false =>
    rw [if_neg (by decide)] at e1
    rw [Bool.false_and] at e2
    have E1 := Lib.hid e1; have E2 := Lib.hid e2
    clear e1 e2 hg
    go_enter Tryz.func17, Tryz.ntmps17
    go_wp2_with fail
    refine HG.mono ?_; rintro e w' ⟨rfl, rfl⟩
    go_wp2_with fail
    go_ret2
    exact ⟨by rw [E1.out, E2.out]; rfl, rfl⟩

set_option maxHeartbeats 1000000 in
theorem GuSet_at (q : Nat) (S : List Nat) (p : Nat) (L : List Int) (h b n : Nat) (W : List Int) (f i v : Int) (w : World) (g : GuIn w q S p L h b n W) :
    Calls Tryz.prog 21 #[.pointer (some ⟨q, 0, none⟩), .int .i64 f, .int .i64 i, .int .u64 v] w fun e w' => e = .returned (.bool (hasG n L f i)) ∧ Chg [b] w w' ∧ GuIn w' q S p L h b n (setG n W L f i v) := by
  obtain ⟨c0, c1⟩ := g.c
  have hg := g.mp
  have hm := g.hm
  have hw : ∀ w' W', Chg [b] w w' → MemAt w' h b n W' → GuIn w' q S p L h b n W' := fun w' W' h1 h2 => g.write h1 h2
  have e1 : setG n W L f i v = if atB L.length f then setW n W (atV L f) i v else W := rfl
  have e2 : hasG n L f i = (atB L.length f && hasW n (atV L f) i) := rfl
  have HG := GHost_at S p L f w hg
  have hself := g.write (Chg.refl [b] w) hm
  clear g
  generalize atV L f = x at *
  generalize atB L.length f = t at *
  cases t with
  | true =>
    rw [if_pos rfl] at e1
    rw [Bool.true_and] at e2
    have E1 := Lib.hid e1; have E2 := Lib.hid e2
    clear e1 e2 hg hself
    go_enter Tryz.func21, Tryz.ntmps21
    go_wp2_with fail
    refine HG.mono ?_; rintro e w' ⟨rfl, rfl⟩
    go_wp2_with fail
    refine (Set_at h b n W x i v _ hm).mono ?_; rintro e w3 ⟨rfl, hc3, hm3⟩
    go_wp2_with fail
    go_ret
    exact ⟨by rw [E2.out]; rfl, hc3, by rw [E1.out]; exact hw _ _ hc3 hm3⟩
  | false =>
    rw [if_neg (by decide)] at e1
    rw [Bool.false_and] at e2
    have E1 := Lib.hid e1; have E2 := Lib.hid e2
    clear e1 e2 hg hm
    go_enter Tryz.func21, Tryz.ntmps21
    go_wp2_with fail
    refine HG.mono ?_; rintro e w' ⟨rfl, rfl⟩
    go_wp2_with fail
    go_ret
    exact ⟨by rw [E2.out]; rfl, Chg.refl _ _, by rw [E1.out]; exact hself⟩

end Go.Proofs.YtdfmlodmaipnkaaGreatDoor
