/-
  The document's map.
-/
import Derived.Test.YtdfmlodmaipnkaaGreatDoorGmapC
namespace Go.Proofs.YtdfmlodmaipnkaaGreatDoor
open Go.RowKit Go.Maps

/-- p is the document's map of L; its blocks are S -/
def RGAt (w : World) (S : List Nat) (p : Nat) (L : List Int) : Prop := ∃ v, Blk w p 105 #[v] ∧ OwnI w 3 .i64 v L ∧ S = p :: v.ownBlock.toList ∧ OkL L 256

section
variable {w w' : World} {S T : List Nat} {p : Nat} {L : List Int}
theorem RGAt.chg (h : RGAt w S p L) (hc : Chg T w w') (hd : ∀ i ∈ S, i ∉ T) : RGAt w' S p L := by
  obtain ⟨v, h1, h2, rfl, hk⟩ := h
  exact ⟨v, hc.blk h1 (hd p (by simp)), h2.chg hc (fun g hg => hd g (by simp only [List.mem_cons]; exact .inr hg)), rfl, hk⟩
theorem RGAt.self (h : RGAt w S p L) (hc : Chg [] w w') : RGAt w' S p L := h.chg hc (by simp)
theorem RGAt.cell0 {v : Value} (h : Blk w p 105 #[v]) : w.cell? ⟨p, 0, none⟩ = some v := h.cell 0
end

set_option maxHeartbeats 1000000 in
theorem RGNew_out (A : Option Addr) (n c : Nat) (fr : Int) (w : World) (h : n < 1 ∨ 64 < n ∨ fr < 1 ∨ 256 < fr) (hn : n ≤ 9223372036854775807) :
    Calls Tryz.prog 24 #[.slice A n c, .int .i64 fr] w fun e w' => e = .returned (.pointer none) ∧ w = w' := by
  by_cases h1 : n < 1
  · clear h
    have h1' : (n : Int) < 1 := by omega
    go_enter Tryz.func24, Tryz.ntmps24
    go_wp2
    all_goals go_ret
    all_goals exact ⟨rfl, rfl⟩
  · have h1' : ¬ (n : Int) < 1 := by omega
    by_cases h2 : 64 < n
    · clear h
      have h2' : (64 : Int) < (n : Int) := by omega
      go_enter Tryz.func24, Tryz.ntmps24
      go_wp2
      all_goals go_ret
      all_goals exact ⟨rfl, rfl⟩
    · have h2' : ¬ (64 : Int) < (n : Int) := by omega
      by_cases h3 : fr < 1
      · clear h
        go_enter Tryz.func24, Tryz.ntmps24
        go_wp2
        all_goals go_ret
        all_goals exact ⟨rfl, rfl⟩
      · have h4 : 256 < fr := by omega
        clear h
        go_enter Tryz.func24, Tryz.ntmps24
        go_wp2
        all_goals go_ret
        all_goals exact ⟨rfl, rfl⟩

theorem contains_take_succ (L : List Int) (k : Nat) (hk : k < L.length) (x : Int) (h1 : (L.take k).contains x = false) (h2 : L.getD k 0 ≠ x) : (L.take (k + 1)).contains x = false := by
  rw [take_snoc L k hk, Bool.eq_false_iff]
  intro hm
  rw [List.contains_iff_mem, List.mem_append, List.mem_singleton] at hm
  rcases hm with hm | hm
  · rw [List.contains_iff_mem.2 hm] at h1; cases h1
  · exact h2 hm.symm
theorem contains_take_mem (L : List Int) (j k : Nat) (hj : j < k) (hk : k < L.length) (x : Int) (h2 : L.getD j 0 = x) : (L.take k).contains x = true := by
  rw [List.contains_iff_mem, ← h2]
  have : (L.take k)[j]? = some (L.getD j 0) := by
    rw [List.getElem?_take, if_pos hj]; simp [List.getD_eq_getElem?_getD, List.getElem?_eq_getElem (show j < L.length by omega)]
  exact List.mem_of_getElem? this

set_option maxRecDepth 100000 in
set_option maxHeartbeats 4000000 in
theorem RGNew_in (A : Option Addr) (n c : Nat) (L : List Int) (fr : Int) (w : World) (h : SlK .i64 w A n L) (h1 : 1 ≤ n ∧ n ≤ 64) (h2 : 1 ≤ fr ∧ fr ≤ 256) :
    Calls Tryz.prog 24 #[.slice A n c, .int .i64 fr] w (NewEnd RGAt L fr w) := by
  have hlen := h.len
  obtain ⟨i0, hi0, hz0, hz1, hz2⟩ := info_parts int_info
  go_enter Tryz.func24, Tryz.ntmps24
  go_wp2_with fail
  go_loopw [5] (fun i w' => ∃ k : Nat, k ≤ n ∧ i = .int .i64 k ∧ Chg [] w w' ∧ OkTo L fr k) (fun i _ => n - (intOf i).toNat)
  case atStart => exact ⟨0, by omega, rfl, Chg.refl _ _, by simp [OkTo]⟩
  case round =>
    obtain ⟨k, hk, rfl, hck, hok⟩ := hrel
    by_cases hlt : k < n
    · have hs := h.chg hck
      obtain ⟨b, off, rfl, hb, d, hxw⟩ := hs.get hlt
      have hkl : k < L.length := by omega
      obtain ⟨x, hx⟩ : ∃ x, L.getD k 0 = x := ⟨_, rfl⟩
      rw [hx] at d hxw
      have HX := Lib.hid hx
      clear hx hs
      by_cases hx0 : x < 0
      · go_wp2_with fail
        go_ret
        exact .inl ⟨rfl, hck, ok_bad hkl (.inl (by rw [HX.out]; exact hx0))⟩
      · by_cases hx1 : fr ≤ x
        · go_wp2_with fail
          go_ret
          exact .inl ⟨rfl, hck, ok_bad hkl (.inr (.inl (by rw [HX.out]; exact hx1)))⟩
        · go_wp2_with fail
          go_loopw [6] (fun i w' => ∃ j : Nat, j ≤ k ∧ i = .int .i64 j ∧ Chg [] w w' ∧ (L.take j).contains x = false) (fun i _ => k - (intOf i).toNat)
          case atStart => exact ⟨0, by omega, rfl, hck, rfl⟩
          case round =>
            clear hck d
            obtain ⟨j, hj, rfl, hck, hnot⟩ := hrel
            have HN := Lib.hid hnot
            clear hnot
            by_cases hjk : j < k
            · have hs := h.chg hck
              obtain ⟨b', off', e, hb', d, hxw⟩ := hs.get hlt
              injection e with e; injection e with e1 e2; subst e1; subst e2
              obtain ⟨b', off', e, hb'', dj, hyw⟩ := hs.get (show j < n by omega)
              injection e with e; injection e with e1 e2; subst e1; subst e2
              rw [HX.out] at d
              obtain ⟨y, hy⟩ : ∃ y, L.getD j 0 = y := ⟨_, rfl⟩
              rw [hy] at dj hyw
              have HY := Lib.hid hy
              clear hy hs
              have hjn : (j : Int) < (n : Int) := by omega
              have hkn : (k : Int) < (n : Int) := by omega
              by_cases hxy : y = x
              · subst hxy
                have hbad : ¬ OkL L fr := ok_bad hkl (.inr (.inr (by rw [HX.out]; exact contains_take_mem L j k hjk hkl _ HY.out)))
                have HB := Lib.hid hbad
                clear hbad
                go_wp2_with fail
                go_quiet (fail)
                go_wp2_with fail
                go_ret
                exact .inl ⟨rfl, hck.drewN _, HB.out⟩
              · have hne : (y == x) = false := by simpa using hxy
                have hn' := contains_take_succ L j (by omega) x HN.out (by rw [HY.out]; exact hxy)
                go_wp2_with fail
                go_quiet (fail)
                go_wp2_with fail
                go_roundw
                case rel => exact ⟨j + 1, by omega, by go_num, hck.drewN _, hn'⟩
                case measure => simp [intOf]; omega
            · obtain rfl : j = k := by omega
              go_wp2_with fail
              go_roundw
              case rel => exact ⟨j + 1, by omega, by go_num, hck, hok.succ hkl (by rw [HX.out]; omega) (by rw [HX.out]; omega) (by rw [HX.out]; exact HN.out)⟩
              case measure => simp [intOf]; omega
    · obtain rfl : k = n := by omega
      have hs := ((h.chg hck).chg ((Chg.refl [] _).alloc (.cells #[] 3))).src (c := c) (fun e => by obtain ⟨b, off, e', _⟩ := h.at_ (by omega); rw [e] at e'; cases e')
      go_wp2_with (at_builtin; refine wpList_append_src rfl _ _ 52 rfl wr.heap.size 3 i0 _ 1 8 Tryz.underlying52 hi0 hz0 hz1 hz2 rfl (by omega) _ _ _ rfl (World.ownsRow_made wr #[] 0 (Nat.le_refl _) (Nat.zero_le _) (by simp)) A k c (vals .i64 L) rfl hs (by simp [maxLen]; omega) (by omega) (by simp) ?_; intro v3 w3 hown3 hc3 hv3; obtain ⟨A3, c3, rfl, _, _⟩ := own_form hown3)
      go_ret
      simp only [List.nil_append, Nat.zero_add] at hown3
      have hcw : Chg [] w w3 := (hck.alloc _).trans hc3 (by intro i hi hm; rw [Option.mem_toList] at hm; change some wr.heap.size = some i at hm; injection hm with hm; have := hck.size; omega)
      have hown : OwnI w3 3 .i64 (.slice A3 k c3) L := by
        unfold OwnI
        rw [hlen]
        have := hown3
        exact ⟨this.1, by
          rcases this.2 with h0 | ⟨g, c', cur, hv, hg, hr⟩
          · exact .inl h0
          · exact .inr ⟨g, c', cur, hv, Nat.zero_le _, hr⟩⟩
      have hok2 : OkL L fr := by
        unfold OkTo at hok
        rw [← hlen, List.take_length] at hok
        exact ⟨by omega, by omega, h2.1, h2.2, hok.1, hok.2⟩
      refine .inr ⟨w3.heap.size, _, rfl, hcw.alloc _, ⟨_, Blk.new _ _ _, hown.alloc _, rfl, hok2.1, hok2.2.1, by omega, by omega, fun x hx => by have := hok2.2.2.2.2.1 x hx; omega, hok2.2.2.2.2.2⟩, ?_, hok2⟩
      intro i hi
      simp only [List.mem_cons] at hi
      rcases hi with rfl | hi
      · exact hcw.size
      · have := (World.ownsRow.lt hown3 i (by simpa using hi)).1
        have := hck.size
        omega

theorem RGNew_at (A : Option Addr) (n c : Nat) (L : List Int) (fr : Int) (w : World) (h : SlK .i64 w A n L) :
    Calls Tryz.prog 24 #[.slice A n c, .int .i64 fr] w (NewEnd RGAt L fr w) := by
  by_cases hin : (1 ≤ n ∧ n ≤ 64) ∧ (1 ≤ fr ∧ fr ≤ 256)
  · exact RGNew_in A n c L fr w h hin.1 hin.2
  · refine (RGNew_out A n c fr w (by omega) h.le).mono fun e w' he => .inl ⟨he.1, he.2 ▸ Chg.refl _ _, ?_⟩
    rintro ⟨k1, k2, k3, k4, _⟩
    have := h.len
    omega
theorem RGNew_ok (A : Option Addr) (n c : Nat) (L : List Int) (fr : Int) (w : World) (h : SlK .i64 w A n L) (hok : OkL L fr) :
    Calls Tryz.prog 24 #[.slice A n c, .int .i64 fr] w fun e w' => ∃ p S, e = .returned (.pointer (some ⟨p, 0, none⟩)) ∧ Chg [] w w' ∧ RGAt w' S p L ∧ ∀ i ∈ S, w.heap.size ≤ i :=
  (RGNew_at A n c L fr w h).mono fun _ _ he => he.elim (fun k => absurd hok k.2.2) fun ⟨p, S, k1, k2, k3, k4, _⟩ => ⟨p, S, k1, k2, k3, k4⟩
theorem RGNew_no (A : Option Addr) (n c : Nat) (L : List Int) (fr : Int) (w : World) (h : SlK .i64 w A n L) (hok : ¬ OkL L fr) :
    Calls Tryz.prog 24 #[.slice A n c, .int .i64 fr] w fun e w' => e = .returned (.pointer none) ∧ Chg [] w w' :=
  (RGNew_at A n c L fr w h).mono fun _ _ he => he.elim (fun k => ⟨k.1, k.2.1⟩) fun ⟨_, _, _, _, _, _, k5⟩ => absurd k5 hok

set_option maxHeartbeats 400000 in
theorem RGMany_at (S : List Nat) (p : Nat) (L : List Int) (w : World) (h : RGAt w S p L) :
    Calls Tryz.prog 60 #[.pointer (some ⟨p, 0, none⟩)] w fun e w' => e = .returned (.int .i64 L.length) ∧ w = w' := by
  obtain ⟨v, h1, h2, _⟩ := h
  have c0 := RGAt.cell0 h1
  obtain ⟨A, c, rfl⟩ := h2.form
  clear h1 h2
  go_enter Tryz.func60, Tryz.ntmps60
  go_wp2
  go_ret
  exact ⟨rfl, rfl⟩

set_option maxHeartbeats 1000000 in
theorem RGHost_at (S : List Nat) (p : Nat) (L : List Int) (g : Int) (w : World) (h : RGAt w S p L) :
    Calls Tryz.prog 48 #[.pointer (some ⟨p, 0, none⟩), .int .i64 g] w fun e w' => e = .returned (.tuple #[.int .i64 (atV L g), .bool (atB L.length g)]) ∧ w = w' := by
  obtain ⟨v, h1, h2, _⟩ := h
  have c0 := RGAt.cell0 h1
  obtain ⟨A, c, rfl⟩ := h2.form
  clear h1
  by_cases hg : 0 ≤ g
  · by_cases hl : g < L.length
    · obtain ⟨k, rfl⟩ := Int.eq_ofNat_of_zero_le hg
      have hk : k < L.length := by omega
      obtain ⟨gb, c', e, _⟩ := h2.pos_ (by omega)
      injection e with e1 e2 e3
      subst e1
      have d := h2.cell k hk
      have hb : atB L.length k = true := by simp [atB]; omega
      have hv : atV L k = L.getD k 0 := by unfold atV; rw [hb, if_pos rfl]; simp
      have HB := Lib.hid hb; have HV := Lib.hid hv
      clear h2 hb hv e2 e3
      generalize L.getD k 0 = x at *
      generalize L.length = n at *
      go_enter Tryz.func48, Tryz.ntmps48
      go_wp2
      go_ret2
      exact ⟨by rw [HB.out, HV.out]; rfl, rfl⟩
    · have hb : atB L.length g = false := by simp [atB]; omega
      have hv : atV L g = 0 := by unfold atV; rw [hb]; rfl
      have HB := Lib.hid hb; have HV := Lib.hid hv
      clear h2 hb hv
      generalize L.length = n at *
      go_enter Tryz.func48, Tryz.ntmps48
      go_wp2
      go_ret2
      exact ⟨by rw [HB.out, HV.out]; rfl, rfl⟩
  · have hb : atB L.length g = false := by simp [atB]; omega
    have hv : atV L g = 0 := by unfold atV; rw [hb]; rfl
    have HB := Lib.hid hb; have HV := Lib.hid hv
    clear h2 hb hv
    generalize L.length = n at *
    go_enter Tryz.func48, Tryz.ntmps48
    go_wp2
    go_ret2
    exact ⟨by rw [HB.out, HV.out]; rfl, rfl⟩

theorem locO_first (L : List Int) (k : Nat) (hk : k < L.length) (h : Int) (h1 : (L.take k).contains h = false) (h2 : L.getD k 0 = h) : locO L h = some (k : Int) := by
  have hm : h ∈ L := by
    rw [← h2]; simp only [List.getD_eq_getElem?_getD, List.getElem?_eq_getElem hk, Option.getD_some]; exact List.getElem_mem hk
  have hn : h ∉ L.take k := fun hm => by rw [List.contains_iff_mem.2 hm] at h1; cases h1
  unfold locO
  rw [List.contains_iff_mem.2 hm, if_pos rfl]
  have e : L = L.take k ++ L.drop k := (List.take_append_drop k L).symm
  have hd : L.drop k = h :: L.drop (k + 1) := by
    rw [List.drop_eq_getElem_cons hk]
    simp only [List.getD_eq_getElem?_getD, List.getElem?_eq_getElem hk, Option.getD_some] at h2
    rw [h2]
  have : L.idxOf h = k := by
    rw [e, List.idxOf_append, if_neg hn, hd, List.idxOf_cons_self, List.length_take]; omega
  rw [this]

end Go.Proofs.YtdfmlodmaipnkaaGreatDoor
