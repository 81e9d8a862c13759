/-
  The contracts of the document's guest.
-/
import Derived.Test.YtdfmlodmaipnkaaGreatDoorGuestD
namespace Go.Proofs.YtdfmlodmaipnkaaGreatDoor
open Go.RowKit Go.Maps

theorem RGAt.apart {w : World} {S : List Nat} {p b : Nat} {L W : List Int} (h : RGAt w S p L) (hb : Blk w b 45 (u64s W)) : b ∉ S := by
  obtain ⟨v, h1, h2, rfl, _⟩ := h
  simp only [List.mem_cons, not_or]
  refine ⟨hb.type_ne h1 (by decide), fun hm => ?_⟩
  obtain ⟨cur, hc⟩ := h2.blk hm
  exact hc.type_ne hb (by decide) rfl
theorem RGAt.ok {w : World} {S : List Nat} {p : Nat} {L : List Int} (h : RGAt w S p L) : OkL L 256 := by obtain ⟨_, _, _, _, hk⟩ := h; exact hk

/-- q is the document's guest's memory: of the map p of L (its blocks S), in the host's memory h -/
structure RGuIn (w : World) (q : Nat) (S : List Nat) (p : Nat) (L : List Int) (h b n : Nat) (W : List Int) : Prop where
  st : Blk w q 101 #[.pointer (some ⟨h, 0, none⟩), .pointer (some ⟨p, 0, none⟩)]
  mp : RGAt w S p L
  hm : RMemAt w h b n W
  inn : InH n L

section
variable {w w' : World} {q p h b n : Nat} {S T : List Nat} {L W W' : List Int}
theorem RGuIn.c (g : RGuIn w q S p L h b n W) : w.cell? ⟨q, 0, none⟩ = some (.pointer (some ⟨h, 0, none⟩)) ∧ w.cell? ⟨q, 1, none⟩ = some (.pointer (some ⟨p, 0, none⟩)) := blkc2 g.st
theorem RGuIn.self (g : RGuIn w q S p L h b n W) (hc : Chg [] w w') : RGuIn w' q S p L h b n W := ⟨hc.blk g.st (by simp), g.mp.self hc, g.hm.chg hc (by simp) (by simp), g.inn⟩
theorem RGuIn.write (g : RGuIn w q S p L h b n W) (hc : Chg [b] w w') (hm : RMemAt w' h b n W') : RGuIn w' q S p L h b n W' :=
  ⟨hc.blk g.st (by have := g.st.type_ne g.hm.ws (by decide); simpa using this), g.mp.chg hc (by
    intro i hi hm; rw [List.mem_singleton] at hm; subst hm; exact g.mp.apart g.hm.ws hi), hm, g.inn⟩
theorem RGuIn.other (g : RGuIn w q S p L h b n W) (hc : Chg T w w') (h1 : q ∉ T) (h2 : ∀ i ∈ S, i ∉ T) (h3 : h ∉ T) (h4 : b ∉ T) : RGuIn w' q S p L h b n W :=
  ⟨hc.blk g.st h1, g.mp.chg hc h2, g.hm.chg hc h3 h4, g.inn⟩
theorem RGuIn.ok (g : RGuIn w q S p L h b n W) : 1 ≤ L.length ∧ L.length ≤ 64 ∧ L.Nodup := ⟨g.mp.ok.1, g.mp.ok.2.1, g.mp.ok.2.2.2.2.2⟩
end

theorem RGuNew_at (p h : Nat) (w : World) :
    Calls Tryz.prog 22 #[.pointer (some ⟨h, 0, none⟩), .pointer (some ⟨p, 0, none⟩)] w fun e w' => ∃ q, e = .returned (.pointer (some ⟨q, 0, none⟩)) ∧ Chg [] w w' ∧ Blk w' q 101 #[.pointer (some ⟨h, 0, none⟩), .pointer (some ⟨p, 0, none⟩)] ∧ w.heap.size ≤ q := by
  go_enter Tryz.func22, Tryz.ntmps22
  go_wp2
  go_ret
  exact ⟨_, rfl, (Chg.refl _ _).alloc _, Blk.new _ _ _, Nat.le_refl _⟩

theorem RGHost_is (S : List Nat) (p : Nat) (L : List Int) (g : Int) (x : Int) (t : Bool) (w : World) (h : RGAt w S p L) (hx : atV L g = x) (ht : atB L.length g = t) :
    Calls Tryz.prog 48 #[.pointer (some ⟨p, 0, none⟩), .int .i64 g] w fun e w' => e = .returned (.tuple #[.int .i64 x, .bool t]) ∧ w = w' := hx ▸ ht ▸ RGHost_at S p L g w h

/-- one word that is laid to be appended -/
theorem cell_srcU (f : Int) (w2 : World) : ∀ a, some (⟨w2.heap.size, 0, none⟩ : Addr) = some a → ∀ j u, [Value.int .u64 f][j]? = some u → (w2.alloc (.cells #[.int .u64 f] 45)).cell? (a.add j) = some u := fun a ha j u hu => by
  injection ha with ha; subst ha
  rw [add_at]
  rw [(Blk.new w2 45 #[.int .u64 f]).cell]
  simpa using hu

theorem RGuFrames_at (q : Nat) (S : List Nat) (p : Nat) (L : List Int) (h b n : Nat) (W : List Int) (w : World) (g : RGuIn w q S p L h b n W) :
    Calls Tryz.prog 36 #[.pointer (some ⟨q, 0, none⟩)] w fun e w' => e = .returned (.int .i64 L.length) ∧ w = w' := by
  obtain ⟨c0, c1⟩ := g.c
  have hg := g.mp
  clear g
  go_enter Tryz.func36, Tryz.ntmps36
  go_wp2_with fail
  refine (RGMany_at S p L _ hg).mono ?_; rintro e w' ⟨rfl, rfl⟩
  go_wp2_with fail
  go_ret
  exact ⟨rfl, rfl⟩

set_option maxHeartbeats 1000000 in
theorem RGuGet_at (q : Nat) (S : List Nat) (p : Nat) (L : List Int) (h b n : Nat) (W : List Int) (f i : Int) (w : World) (g : RGuIn w q S p L h b n W) :
    Calls Tryz.prog 30 #[.pointer (some ⟨q, 0, none⟩), .int .i64 f, .int .i64 i] w fun e w' => e = .returned (.tuple #[.int .u64 (getG n W L f i), .bool (hasG n L f i)]) ∧ w = w' := by
  obtain ⟨c0, c1⟩ := g.c
  have hg := g.mp
  have hm := g.hm
  clear g
  have e1 : getG n W L f i = if atB L.length f then getW n W (atV L f) i else 0 := rfl
  have e2 : hasG n L f i = (atB L.length f && hasW n (atV L f) i) := rfl
  have HG := RGHost_at S p L f w hg
  generalize atV L f = x at *
  generalize atB L.length f = t at *
  cases t with
  | true =>
    rw [if_pos rfl] at e1
    rw [Bool.true_and] at e2
    have E1 := Lib.hid e1; have E2 := Lib.hid e2
    clear e1 e2 hg
    go_enter Tryz.func30, Tryz.ntmps30
    go_wp2_with fail
    refine HG.mono ?_; rintro e w' ⟨rfl, rfl⟩
    go_wp2_with fail
    refine (RGet_at h b n W x i _ hm).mono ?_; rintro e w' ⟨rfl, rfl⟩
    go_wp2_with fail
    go_ret2
    exact ⟨by rw [E1.out, E2.out]; rfl, rfl⟩
  | false =>
    rw [if_neg (by decide)] at e1
    rw [Bool.false_and] at e2
    have E1 := Lib.hid e1; have E2 := Lib.hid e2
    clear e1 e2 hg
    go_enter Tryz.func30, Tryz.ntmps30
    go_wp2_with fail
    refine HG.mono ?_; rintro e w' ⟨rfl, rfl⟩
    go_wp2_with fail
    go_ret2
    exact ⟨by rw [E1.out, E2.out]; rfl, rfl⟩

set_option maxHeartbeats 1000000 in
theorem RGuSet_at (q : Nat) (S : List Nat) (p : Nat) (L : List Int) (h b n : Nat) (W : List Int) (f i v : Int) (w : World) (g : RGuIn w q S p L h b n W) :
    Calls Tryz.prog 25 #[.pointer (some ⟨q, 0, none⟩), .int .i64 f, .int .i64 i, .int .u64 v] w fun e w' => e = .returned (.bool (hasG n L f i)) ∧ Chg [b] w w' ∧ RGuIn w' q S p L h b n (setG n W L f i v) := by
  obtain ⟨c0, c1⟩ := g.c
  have hg := g.mp
  have hm := g.hm
  have hw : ∀ w' W', Chg [b] w w' → RMemAt w' h b n W' → RGuIn w' q S p L h b n W' := fun w' W' h1 h2 => g.write h1 h2
  have e1 : setG n W L f i v = if atB L.length f then setW n W (atV L f) i v else W := rfl
  have e2 : hasG n L f i = (atB L.length f && hasW n (atV L f) i) := rfl
  have HG := RGHost_at S p L f w hg
  have hself := g.write (Chg.refl [b] w) hm
  clear g
  generalize atV L f = x at *
  generalize atB L.length f = t at *
  cases t with
  | true =>
    rw [if_pos rfl] at e1
    rw [Bool.true_and] at e2
    have E1 := Lib.hid e1; have E2 := Lib.hid e2
    clear e1 e2 hg hself
    go_enter Tryz.func25, Tryz.ntmps25
    go_wp2_with fail
    refine HG.mono ?_; rintro e w' ⟨rfl, rfl⟩
    go_wp2_with fail
    refine (RSet_at h b n W x i v _ hm).mono ?_; rintro e w3 ⟨rfl, hc3, hm3⟩
    go_wp2_with fail
    go_ret
    exact ⟨by rw [E2.out]; rfl, hc3, by rw [E1.out]; exact hw _ _ hc3 hm3⟩
  | false =>
    rw [if_neg (by decide)] at e1
    rw [Bool.false_and] at e2
    have E1 := Lib.hid e1; have E2 := Lib.hid e2
    clear e1 e2 hg hm
    go_enter Tryz.func25, Tryz.ntmps25
    go_wp2_with fail
    refine HG.mono ?_; rintro e w' ⟨rfl, rfl⟩
    go_wp2_with fail
    go_ret
    exact ⟨by rw [E2.out]; rfl, Chg.refl _ _, by rw [E1.out]; exact hself⟩


theorem RGet_yes_at (p b n : Nat) (L : List Int) (f i : Nat) (w : World) (h : RMemAt w p b n L) (hf : f < n) (hi : i < 8) :
    Calls Tryz.prog 58 #[.pointer (some ⟨p, 0, none⟩), .int .i64 f, .int .i64 i] w fun e w' => e = .returned (.tuple #[.int .u64 (L.getD (f * 8 + i) 0), .bool true]) ∧ w = w' := RGet_yes p b n L f i w h hf hi

theorem RGuGet_in (q : Nat) (S : List Nat) (p : Nat) (L : List Int) (h b n : Nat) (W : List Int) (k j f : Nat) (w : World) (g : RGuIn w q S p L h b n W) (hk : k < L.length) (hj : j < 8) (hf : L.getD k 0 = f) :
    Calls Tryz.prog 30 #[.pointer (some ⟨q, 0, none⟩), .int .i64 k, .int .i64 j] w fun e w' => e = .returned (.tuple #[.int .u64 (W.getD (f * 8 + j) 0), .bool true]) ∧ w = w' := by
  have h1 : getG n W L k j = W.getD (f * 8 + j) 0 := by
    rw [getG_nat g.inn hk hj]
    unfold posG
    rw [show (8 * k + j) / 8 = k by omega, show (8 * k + j) % 8 = j by omega, hf, Int.toNat_natCast]
  have h2 : hasG n L k j = true := by rw [hasG_nat g.inn]; simp; omega
  have := RGuGet_at q S p L h b n W k j w g
  rw [h1, h2] at this
  exact this
theorem RGuSet_in (q : Nat) (S : List Nat) (p : Nat) (L : List Int) (h b n : Nat) (W : List Int) (k j f : Nat) (v : Int) (w : World) (g : RGuIn w q S p L h b n W) (hk : k < L.length) (hj : j < 8) (hf : L.getD k 0 = f) :
    Calls Tryz.prog 25 #[.pointer (some ⟨q, 0, none⟩), .int .i64 k, .int .i64 j, .int .u64 v] w fun e w' => e = .returned (.bool true) ∧ Chg [b] w w' ∧ RGuIn w' q S p L h b n (W.set (f * 8 + j) v) := by
  have h1 : setG n W L k j v = W.set (f * 8 + j) v := by
    rw [setG_nat g.inn hk hj]
    unfold posG
    rw [show (8 * k + j) / 8 = k by omega, show (8 * k + j) % 8 = j by omega, hf, Int.toNat_natCast]
  have h2 : hasG n L k j = true := by rw [hasG_nat g.inn]; simp; omega
  have := RGuSet_at q S p L h b n W k j v w g
  rw [h1, h2] at this
  exact this

set_option maxRecDepth 100000 in
set_option maxHeartbeats 2000000 in
theorem RGuAll_at (q : Nat) (S : List Nat) (p : Nat) (L : List Int) (h b n : Nat) (W : List Int) (w : World) (g : RGuIn w q S p L h b n W) :
    Calls Tryz.prog 16 #[.pointer (some ⟨q, 0, none⟩)] w fun e w' => ∃ A c, e = .returned (.slice A (8 * L.length) c) ∧ Chg [] w w' ∧ OwnI w' 45 .u64 (.slice A (8 * L.length) c) (allG W L) ∧ ∀ i ∈ (Value.slice A (8 * L.length) c).ownBlock.toList, w.heap.size ≤ i := by
  obtain ⟨hl1, hl2, hnd⟩ := g.ok
  have hinn := g.inn
  have hWl := g.hm.len
  have HND := Lib.hid hnd; have HWL := Lib.hid hWl
  clear hnd hWl
  obtain ⟨i0, hi0, hz0, hz1, hz2⟩ := info_parts u64_info
  go_enter Tryz.func16, Tryz.ntmps16
  go_wp2_with fail
  go_loopw [3, 4] (fun v i w' => ∃ k : Nat, k ≤ L.length ∧ i = .int .i64 k ∧ Chg [] w w' ∧ w'.ownsRow 0 45 1 v (8 * k) (vals .u64 ((allG W L).take (8 * k))) ∧ (∀ i ∈ v.ownBlock.toList, w.heap.size ≤ i)) (fun _ i _ => L.length - (intOf i).toNat)
  case atStart => exact ⟨0, by omega, rfl, Chg.refl _ _, by simpa [vals] using World.ownsRow_nil _ _ _ _, by simp [Value.ownBlock]⟩
  case round =>
    obtain ⟨k, hk, rfl, hc, ho, hg⟩ := hrel
    obtain ⟨A, c, rfl, hA1, hA2⟩ := own_form ho
    have gk := g.self hc
    go_wp2_with fail
    refine (RGuFrames_at q S p L h b n W _ gk).mono ?_; rintro e w' ⟨rfl, rfl⟩
    by_cases hlt : k < L.length
    · obtain ⟨f, hf, hfn⟩ := hinn.at_ hlt
      go_wp2_with fail
      go_loopw [3, 5] (fun v i w' => ∃ j : Nat, j ≤ 8 ∧ i = .int .i64 j ∧ Chg [] w w' ∧ w'.ownsRow 0 45 1 v (8 * k + j) (vals .u64 ((allG W L).take (8 * k + j))) ∧ (∀ i ∈ v.ownBlock.toList, w.heap.size ≤ i)) (fun _ i _ => 8 - (intOf i).toNat)
      case atStart => exact ⟨0, by omega, rfl, hc, ho, hg⟩
      case round =>
        clear hc ho hg gk hA1 hA2
        obtain ⟨j, hj, rfl, hc, ho, hg⟩ := hrel
        obtain ⟨A, c, rfl, hA1, hA2⟩ := own_form ho
        have gk := g.self hc
        by_cases hj8 : j < 8
        · have hstep := all_word (W := W) hlt hj8
          rw [hf, Int.toNat_natCast] at hstep
          have HS := Lib.hid hstep
          clear hstep
          have hget := RGuGet_in q S p L h b n W k j f _ gk hlt hj8 hf
          generalize W.getD (f * 8 + j) 0 = x at *
          have HF := Lib.hid hf
          clear hf
          go_wp2_with fail
          refine hget.mono ?_; rintro e w' ⟨rfl, rfl⟩
          clear hget
          go_wp2_with (at_builtin
                       refine wpList_append_src rfl _ _ 42 rfl 0 45 i0 _ 1 8 Tryz.underlying42 hi0 hz0 hz1 hz2 rfl (by omega) (.slice A (8 * k + j) c) _ _ rfl (World.ownsRow.alloc ho _) (some ⟨wr.heap.size, 0, none⟩) 1 1 [.int .u64 x] rfl ⟨by simp, by simp [Value.oneCell'], by simp, cell_srcU _ wr⟩ (by simp [maxLen]; omega) (by omega) (by simp) ?_
                       intro v3 w3 hown3 hc3 hv3
                       obtain ⟨A3, k3, rfl, _, _⟩ := own_form hown3)
          go_roundw
          case rel =>
            refine ⟨j + 1, by omega, by go_num, (hc.alloc _).trans hc3 (by intro i hi hm; have := hg i hm; omega), ?_, ?_⟩
            · rw [HS.out, vals_app, vals_one]
              exact hown3
            · intro i hi
              rcases hv3 with e | e
              · rw [e] at hi; exact hg i hi
              · rw [e] at hi; simp at hi; have := hc.size; omega
          case measure => simp [intOf]; omega
        · obtain rfl : j = 8 := by omega
          go_wp2_with fail
          go_roundw
          case rel => exact ⟨k + 1, by omega, by go_num, hc, ho, hg⟩
          case measure => simp [intOf]; omega
    · obtain rfl : k = L.length := by omega
      go_wp2_with fail
      go_ret
      refine ⟨A, c, rfl, hc, ?_, hg⟩
      rw [all_full] at ho
      exact own_any ho (by rw [allG_len])

theorem part_getD {xs : List Int} {k j : Nat} (hj : j < 8) : ((xs.drop (8 * k)).take 8).getD j 0 = xs.getD (8 * k + j) 0 := by
  simp only [List.getD_eq_getElem?_getD, List.getElem?_take, if_pos hj, List.getElem?_drop]

end Go.Proofs.YtdfmlodmaipnkaaGreatDoor
