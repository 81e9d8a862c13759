/-
  The contracts of gmap's Many, Host, Guest, and of the clone of a list.
-/
import Derived.Test.YtdfmlodmaipnkaaGreatDoorInts
import Derived.Test.YtdfmlodmaipnkaaGreatDoorProg
import Derived.Test.YtdfmlodmaipnkaaGreatDoorLib3
import Derived.Deep.RegionWith
namespace Go.Proofs.YtdfmlodmaipnkaaGreatDoor
open Go.RowKit Go.Maps

/-- is L, of a host of so many frames, a map? -/
def OkL (L : List Int) (fr : Int) : Prop := 1 ≤ L.length ∧ L.length ≤ 64 ∧ 1 ≤ fr ∧ fr ≤ 256 ∧ (∀ h ∈ L, 0 ≤ h ∧ h < fr) ∧ L.Nodup

/-- p is a map of L: its struct is block p, its map block m, its list v -/
structure GIn (w : World) (p m : Nat) (v : Value) (L : List Int) : Prop where
  st : Blk w p 99 #[v, .map (some m)]
  bk : OwnI w 3 .i64 v L
  mp : IntM Tryz.prog 3 3 w m L.length (locO L)

/-- p is a map of L; its blocks are S -/
def GAt (w : World) (S : List Nat) (p : Nat) (L : List Int) : Prop := ∃ m v, GIn w p m v L ∧ S = p :: m :: v.ownBlock.toList ∧ OkL L 256

section
variable {w w' : World} {S T : List Nat} {p m : Nat} {v : Value} {L : List Int}
theorem GIn.c (h : GIn w p m v L) : w.cell? ⟨p, 0, none⟩ = some v ∧ w.cell? ⟨p, 1, none⟩ = some (.map (some m)) := by
  have h0 := h.st.cell 0; have h1 := h.st.cell 1
  simp only [List.getElem?_toArray, List.getElem?_cons_succ, List.getElem?_cons_zero] at h0 h1
  exact ⟨h0, h1⟩
theorem GAt.chg (h : GAt w S p L) (hc : Chg T w w') (hd : ∀ i ∈ S, i ∉ T) : GAt w' S p L := by
  obtain ⟨m, v, h1, rfl, hk⟩ := h
  exact ⟨m, v, ⟨hc.blk h1.st (hd p (by simp)), h1.bk.chg hc (fun g hg => hd g (by simp only [List.mem_cons]; exact .inr (.inr hg))), h1.mp.chg hc (hd m (by simp))⟩, rfl, hk⟩
theorem GAt.self (h : GAt w S p L) (hc : Chg [] w w') : GAt w' S p L := h.chg hc (by simp)
theorem GAt.lt (h : GAt w S p L) : ∀ i ∈ S, i < w.heap.size := by
  obtain ⟨m, v, h1, rfl, _⟩ := h
  intro i hi
  simp only [List.mem_cons] at hi
  rcases hi with rfl | rfl | hi
  · exact h1.st.lt
  · exact h1.mp.lt
  · exact h1.bk.lt i hi
theorem GAt.ok (h : GAt w S p L) : OkL L 256 := by obtain ⟨_, _, _, _, hk⟩ := h; exact hk
end

/-- what a list tells of a place -/
def atB (n : Nat) (g : Int) : Bool := decide (0 ≤ g ∧ g < n)
def atV (L : List Int) (g : Int) : Int := if atB L.length g then L.getD g.toNat 0 else 0

set_option maxHeartbeats 400000 in
theorem GMany_at (S : List Nat) (p : Nat) (L : List Int) (w : World) (h : GAt w S p L) :
    Calls Tryz.prog 62 #[.pointer (some ⟨p, 0, none⟩)] w fun e w' => e = .returned (.int .i64 L.length) ∧ w = w' := by
  obtain ⟨m, v, h1, _, _⟩ := h
  obtain ⟨c0, c1⟩ := h1.c
  obtain ⟨A, c, rfl⟩ := h1.bk.form
  clear h1
  go_enter Tryz.func62, Tryz.ntmps62
  go_wp2
  go_ret
  exact ⟨rfl, rfl⟩

set_option maxHeartbeats 1000000 in
theorem GHost_at (S : List Nat) (p : Nat) (L : List Int) (g : Int) (w : World) (h : GAt w S p L) :
    Calls Tryz.prog 43 #[.pointer (some ⟨p, 0, none⟩), .int .i64 g] w fun e w' => e = .returned (.tuple #[.int .i64 (atV L g), .bool (atB L.length g)]) ∧ w = w' := by
  obtain ⟨m, v, h1, _, _⟩ := h
  obtain ⟨c0, c1⟩ := h1.c
  obtain ⟨A, c, rfl⟩ := h1.bk.form
  by_cases hg : 0 ≤ g
  · by_cases hl : g < L.length
    · obtain ⟨k, rfl⟩ := Int.eq_ofNat_of_zero_le hg
      have hk : k < L.length := by omega
      obtain ⟨gb, c', e, _⟩ := h1.bk.pos_ (by omega)
      injection e with e1 e2 e3
      subst e1
      have d := h1.bk.cell k hk
      have hb : atB L.length k = true := by simp [atB]; omega
      have hv : atV L k = L.getD k 0 := by unfold atV; rw [hb, if_pos rfl]; simp
      have HB := Lib.hid hb; have HV := Lib.hid hv
      clear h1 hb hv e2 e3
      generalize L.getD k 0 = x at *
      generalize L.length = n at *
      go_enter Tryz.func43, Tryz.ntmps43
      go_wp2
      go_ret2
      exact ⟨by rw [HB.out, HV.out]; rfl, rfl⟩
    · have hb : atB L.length g = false := by simp [atB]; omega
      have hv : atV L g = 0 := by unfold atV; rw [hb]; rfl
      have HB := Lib.hid hb; have HV := Lib.hid hv
      clear h1 hb hv
      generalize L.length = n at *
      go_enter Tryz.func43, Tryz.ntmps43
      go_wp2
      go_ret2
      exact ⟨by rw [HB.out, HV.out]; rfl, rfl⟩
  · have hb : atB L.length g = false := by simp [atB]; omega
    have hv : atV L g = 0 := by unfold atV; rw [hb]; rfl
    have HB := Lib.hid hb; have HV := Lib.hid hv
    clear h1 hb hv
    generalize L.length = n at *
    go_enter Tryz.func43, Tryz.ntmps43
    go_wp2
    go_ret2
    exact ⟨by rw [HB.out, HV.out]; rfl, rfl⟩

set_option maxHeartbeats 400000 in
theorem Clone_at (A : Option Addr) (n c : Nat) (L : List Int) (w : World) (h : SlK .i64 w A n L) (hn : n ≤ 1000000) :
    Calls Tryz.prog 46 #[.slice A n c] w fun e w' => ∃ v, e = .returned v ∧ Chg [] w w' ∧ OwnI w' 3 .i64 v L ∧ ∀ g ∈ v.ownBlock.toList, w.heap.size ≤ g := by
  have hlen := h.len
  obtain ⟨i0, hi0, hz0, hz1, hz2⟩ := info_parts int_info
  have q22 : ∀ (w : World) (a : Option Addr) (n c n' c' : Nat), (binOp .eql 52 (.slice a n c) (.slice none n' c')).run Tryz.prog w = .ok (.bool a.isNone) w := fun w a n c n' c' => Lib.run_eql_slice_nil w _ _ a n c n' c' Tryz.underlying52
  cases A with
  | none =>
    have hn0 : n = 0 := by
      rcases Nat.eq_zero_or_pos n with h0 | h0
      · exact h0
      · obtain ⟨b, off, e, _⟩ := h.at_ h0; cases e
    subst hn0
    obtain rfl := List.eq_nil_of_length_eq_zero hlen
    clear h hlen
    go_enter Tryz.func46, Tryz.ntmps46
    go_wp2
    go_ret
    exact ⟨_, rfl, Chg.refl _ _, OwnI.none_ _ _ _, by simp [Value.ownBlock]⟩
  | some a =>
    have hs := (h.chg ((Chg.refl [] w).alloc (.cells #[] 3))).src (c := c) (by simp)
    clear h
    go_enter Tryz.func46, Tryz.ntmps46
    go_wp2_with (at_builtin; refine wpList_append_src rfl _ _ 52 rfl w.heap.size 3 i0 _ 1 8 Tryz.underlying52 hi0 hz0 hz1 hz2 rfl (by omega) _ _ _ rfl (World.ownsRow_made w #[] 0 (Nat.le_refl _) (Nat.zero_le _) (by simp)) (some a) n c (vals .i64 L) rfl hs (by simp [maxLen]; omega) (by omega) (by simp) ?_; intro v3 w3 hown3 hc3 hv3)
    go_wp2
    go_ret
    have hown : OwnI w3 3 .i64 v3 L := by
      unfold OwnI
      rw [hlen]
      have := hown3
      simp only [List.nil_append, Nat.zero_add] at this
      exact ⟨this.1, by
        rcases this.2 with h0 | ⟨g, c', cur, hv, hg, hr⟩
        · exact .inl h0
        · exact .inr ⟨g, c', cur, hv, Nat.zero_le _, hr⟩⟩
    refine ⟨v3, rfl, ?_, hown, ?_⟩
    · exact ((Chg.refl [] w).alloc _).trans hc3 (by intro i hi hm; rw [Option.mem_toList] at hm; change some w.heap.size = some i at hm; injection hm with hm; omega)
    · intro g hg
      have hg' : v3.ownBlock = some g := by simpa using hg
      rcases hown3.2 with ⟨e, _⟩ | ⟨g', c', cur, hv, hg2, _⟩
      · subst e; simp [Value.ownBlock] at hg'
      · subst hv; simp [Value.ownBlock] at hg'; omega

end Go.Proofs.YtdfmlodmaipnkaaGreatDoor
