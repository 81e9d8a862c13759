/-
  The contracts of the document's list of hits: New, Many, All, List, Drop, Flush, Get.
-/
import Derived.Test.YtikdoldmhlbklaaTlbO
namespace Go.Proofs.Ytikdoldmhlbklaa
open Go.RowKit Go.Shelf

/-- p is the document's list of what is known: these hits, at most so many; they lie in v -/
structure RTIn (w : World) (p most : Nat) (v : Value) (L : List Ht) : Prop where
  st : Blk w p 55 #[.int .i64 most, v]
  ow : OwnH w v L
  le : L.length ≤ most
  lo : 1 ≤ most
  hi : most ≤ 512
def RTAt (w : World) (S : List Nat) (p most : Nat) (L : List Ht) : Prop := ∃ v, RTIn w p most v L ∧ S = p :: v.ownBlock.toList

section
variable {w w' : World} {S T : List Nat} {p most : Nat} {v : Value} {L : List Ht}
theorem RTIn.ne (h : RTIn w p most v L) : ∀ g ∈ v.ownBlock.toList, g ≠ p := fun g hg => by
  obtain ⟨cur, hb⟩ := h.ow.blk hg
  exact hb.type_ne h.st (by decide)
theorem RTIn.chg (h : RTIn w p most v L) (hc : Chg T w w') (hp : p ∉ T) (hg : ∀ g ∈ v.ownBlock.toList, g ∉ T) : RTIn w' p most v L :=
  ⟨hc.blk h.st hp, h.ow.chg hc hg, h.le, h.lo, h.hi⟩
theorem RTIn.c (h : RTIn w p most v L) : w.cell? ⟨p, 0, none⟩ = some (.int .i64 most) ∧ w.cell? ⟨p, 1, none⟩ = some v := by
  have h0 := h.st.cell 0; have h1 := h.st.cell 1
  simp only [List.getElem?_toArray, List.getElem?_cons_succ, List.getElem?_cons_zero] at h0 h1
  exact ⟨h0, h1⟩
theorem RTAt.chg (h : RTAt w S p most L) (hc : Chg T w w') (hd : ∀ i ∈ S, i ∉ T) : RTAt w' S p most L := by
  obtain ⟨v, h, rfl⟩ := h
  exact ⟨v, h.chg hc (hd p (by simp)) (fun g hg => hd g (by simp only [List.mem_cons]; exact .inr hg)), rfl⟩
theorem RTAt.self (h : RTAt w S p most L) (hc : Chg [] w w') : RTAt w' S p most L := h.chg hc (by simp)
theorem RTAt.lt (h : RTAt w S p most L) : ∀ i ∈ S, i < w.heap.size := by
  obtain ⟨v, h, rfl⟩ := h
  intro i hi
  simp only [List.mem_cons] at hi
  rcases hi with rfl | hi
  · exact h.st.lt
  · exact h.ow.lt i hi
end

set_option maxHeartbeats 400000 in
theorem RTNew_no (n : Int) (w : World) (h : n < 1 ∨ 512 < n) :
    Calls Try.prog 12 #[.int .i64 n] w fun e w' => e = .returned (.pointer none) ∧ w = w' := by
  by_cases h1 : n < 1
  · clear h
    go_enter Try.func12, Try.ntmps12
    go_wp2
    all_goals go_ret
    all_goals exact ⟨rfl, rfl⟩
  · have h2 : 512 < n := by omega
    clear h
    go_enter Try.func12, Try.ntmps12
    go_wp2
    all_goals go_ret
    all_goals exact ⟨rfl, rfl⟩
set_option maxHeartbeats 400000 in
theorem RTNew_in (n : Nat) (w : World) (h1 : 1 ≤ n) (h2 : n ≤ 512) :
    Calls Try.prog 12 #[.int .i64 n] w fun e w' => e = .returned (.pointer (some ⟨w.heap.size, 0, none⟩)) ∧ Chg [] w w' ∧ RTAt w' [w.heap.size] w.heap.size n [] := by
  have e1 : ¬ (n : Int) < 1 := by omega
  have e2 : ¬ (n : Int) > 512 := by omega
  go_enter Try.func12, Try.ntmps12
  go_wp2
  all_goals go_ret
  all_goals exact ⟨rfl, (Chg.refl _ _).alloc _, .slice none 0 0, ⟨Blk.new w 55 #[.int .i64 n, .slice none 0 0], OwnH.none_ _, by simp, h1, h2⟩, rfl⟩
set_option maxHeartbeats 400000 in
theorem RTMany_at (S : List Nat) (p most : Nat) (L : List Ht) (w : World) (h : RTAt w S p most L) :
    Calls Try.prog 29 #[.pointer (some ⟨p, 0, none⟩)] w fun e w' => e = .returned (.int .i64 L.length) ∧ Chg [] w w' := by
  obtain ⟨v, h, rfl⟩ := h
  obtain ⟨c0, c1⟩ := h.c
  obtain ⟨A, c, rfl, _, _⟩ := h.ow.form
  clear h
  go_enter Try.func29, Try.ntmps29
  go_wp2
  go_ret
  exact ⟨rfl, Chg.refl _ _⟩
set_option maxHeartbeats 400000 in
theorem RTAll_at (S : List Nat) (p most : Nat) (L : List Ht) (w : World) (h : RTAt w S p most L) :
    Calls Try.prog 18 #[.pointer (some ⟨p, 0, none⟩)] w fun e w' => ∃ S', e = .returned (.tuple #[]) ∧ Chg S w w' ∧ RTAt w' S' p most [] ∧ Grew w S S' := by
  obtain ⟨v, h, rfl⟩ := h
  obtain ⟨c0, c1⟩ := h.c
  have f1 := h.st.frozen 1
  go_enter Try.func18, Try.ntmps18
  go_wp2
  go_end0
  refine ⟨[p], rfl, (Chg.refl _ _).setCell (by simp) _, ⟨.slice none 0 0, ⟨?_, OwnH.none_ _, by simp, h.lo, h.hi⟩, rfl⟩, fun i hi => .inl (by simp at hi; subst hi; simp)⟩
  exact h.st.set_ 1 _
set_option maxHeartbeats 1000000 in
theorem RTList_at (S : List Nat) (p most : Nat) (L : List Ht) (w : World) (h : RTAt w S p most L) :
    Calls Try.prog 27 #[.pointer (some ⟨p, 0, none⟩)] w fun e w' => ∃ v, e = .returned v ∧ Chg [] w w' ∧ OwnH w' v L ∧ ∀ g ∈ v.ownBlock.toList, w.heap.size ≤ g := by
  obtain ⟨v, h, rfl⟩ := h
  have hc0 : Chg [] w (w.alloc (.cells #[] 31)) := (Chg.refl _ _).alloc _
  have h1 := h.chg hc0 (by simp) (by simp)
  obtain ⟨c0, c1⟩ := h1.c
  obtain ⟨A, c, rfl, hA, _⟩ := h.ow.form
  have hsrc := h1.ow.src
  have hle := h.le; have hhi := h.hi
  have hmade : OwnH (w.alloc (.cells #[] 31)) (.slice (some ⟨w.heap.size, 0, none⟩) 0 0) [] := World.ownsRow_made w #[] 0 (Nat.zero_le _) (Nat.zero_le _) (by simp)
  clear h h1 hA
  have HL := Lib.hid (show L.length = L.length from rfl)
  go_enter Try.func27, Try.ntmps27
  go_wp2_with (at_builtin; refine wpList_append_own_H rfl _ _ rfl _ [] rfl hmade A L.length c L rfl hsrc rfl (by simp; omega) ?_)
  intro v' w1 hown hch hb
  obtain ⟨A', c', rfl, _, _⟩ := hown.form
  go_wp2_with fail
  go_ret
  refine ⟨_, rfl, hc0.trans hch (by intro i hi hm; simp [Value.ownBlock] at hm; omega), by simpa using hown, fun g hg => ?_⟩
  change g ∈ (Value.slice A' _ c').ownBlock.toList at hg
  rcases hb with e | e
  · rw [e] at hg; simp [Value.ownBlock] at hg; omega
  · rw [e] at hg; simp at hg; omega

/-- what of a row has been kept so far: a list of the call's own -/
theorem kept_app {w w4 : World} {v v5 : Value} (hb : v5.ownBlock = v.ownBlock ∨ v5.ownBlock = some w4.heap.size) (hv : ∀ g ∈ v.ownBlock.toList, w.heap.size ≤ g) (hs : w.heap.size ≤ w4.heap.size) : ∀ g ∈ v5.ownBlock.toList, w.heap.size ≤ g := fun g hg => by
  rcases hb with e | e
  · rw [e] at hg; exact hv g hg
  · rw [e] at hg; simp at hg; omega

theorem drop_has (L : List Ht) (a p : Int) : decide ((dropT L a p).length < L.length) = hasT L a p := by
  unfold dropT hasT
  induction L with
  | nil => simp
  | cons y t ih =>
    have hle := List.length_filter_le (fun h : Ht => !h.isK a p) t
    cases hy : y.isK a p with
    | true =>
      rw [List.filter_cons_of_neg (by simp [hy]), List.any_cons, hy]
      simp; omega
    | false =>
      rw [List.filter_cons_of_pos (by simp [hy]), List.any_cons, hy, ← ih]
      simp

set_option maxRecDepth 100000 in
set_option maxHeartbeats 4000000 in
theorem RTDrop_at (S : List Nat) (p most : Nat) (L : List Ht) (a pg : Int) (w : World) (h : RTAt w S p most L) :
    Calls Try.prog 14 #[.pointer (some ⟨p, 0, none⟩), .int .i64 a, .int .i64 pg] w fun e w' => ∃ S', e = .returned (.bool (hasT L a pg)) ∧ Chg S w w' ∧ RTAt w' S' p most (dropT L a pg) ∧ Grew w S S' := by
  obtain ⟨v0, h, rfl⟩ := h
  have hlt := h.st.lt
  have hle := h.le; have hlo := h.lo; have hhi := h.hi
  have hst0 := h.st
  have HH := Lib.hid h
  obtain ⟨A0, c0v, rfl, _, _⟩ := h.ow.form
  have hs0 := h.ow.slh
  have hne := h.ne
  clear h
  go_enter Try.func14, Try.ntmps14
  go_wp2_with fail
  go_loopg [7, 8] L.length (fun gg sv si wr => ∃ j : Nat, j ≤ L.length ∧ L.length - j ≤ gg ∧ si = .int .i64 j ∧ Aside (Chg [] w wr) ∧ Aside (OwnH wr sv ((L.take j).filter (fun h => !h.isK a pg))) ∧ Aside (∀ g ∈ sv.ownBlock.toList, w.heap.size ≤ g))
  case atStart => exact ⟨0, by omega, by omega, rfl, Chg.refl _ _, OwnH.none_ _, fun g hg => by simp [Value.ownBlock] at hg⟩
  case round =>
    obtain ⟨j, hj, hg, rfl, HC, HO, HB⟩ := hrel
    have hst := HC.out.blk hst0 (by simp)
    have k1 := hst.cell 1
    simp only [List.getElem?_toArray, List.getElem?_cons_succ, List.getElem?_cons_zero] at k1
    by_cases hlt' : j < L.length
    · have hltz : (j : Int) < (L.length : Int) := by omega
      obtain ⟨b, off, rfl, hb, hc⟩ := (hs0.new HC.out).get hlt'
      have HG := Lib.hid (getD_lt hlt')
      have HTK := Lib.hid (List.take_succ_eq_append_getElem hlt')
      obtain ⟨c0, c1, c2, c3, c4, c5, c6⟩ := hc
      generalize L.getD j default = y at *
      have hML : ((L.take j).filter (fun h => !h.isK a pg)).length ≤ 512 := Nat.le_trans (List.length_filter_le _ _) (by simp; omega)
      by_cases h1 : y.a = a
      · have f1 : (y.a != a) = false := by simp [h1]
        by_cases h2 : y.p = pg
        · have f2 : (y.p != pg) = false := by simp [h2]
          have HK : Hid (y.isK a pg = true) := (isK_iff y a pg).2 ⟨h1, h2⟩
          clear h1 h2
          have e2 : (L.take (j + 1)).filter (fun h => !h.isK a pg) = (L.take j).filter (fun h => !h.isK a pg) := by
            rw [HTK.out, List.filter_append, ← HG.out]; simp [HK.out]
          have HE2 := Lib.hid e2
          clear e2
          go_wp2_with fail
          go_roundg (L.length - (j + 1))
          case measure => omega
          case rel => exact ⟨j + 1, by omega, by omega, by go_num, HC.out, (show OwnH wr _ _ by rw [HE2.out]; exact HO.out), HB.out⟩
        · have f2 : (y.p != pg) = true := by simp [h2]
          have HK : Hid (y.isK a pg = false) := by show _ = _; rw [Bool.eq_false_iff, Ne, isK_iff]; exact fun e => h2 e.2
          clear h1 h2
          have e2 : (L.take (j + 1)).filter (fun h => !h.isK a pg) = (L.take j).filter (fun h => !h.isK a pg) ++ [y] := by
            rw [HTK.out, List.filter_append, ← HG.out]; simp [HK.out]
          have HE2 := Lib.hid e2
          have hnb := BlkH.new wr y
          have hC4 := HC.out.alloc (.cells #[.int .i64 y.a, .int .i64 y.p, .int .i64 y.f, .bool y.w, .bool y.u, .bool y.x, .bool y.d] 31)
          have hO4 := HO.out.chg ((Chg.refl [] wr).alloc (.cells #[.int .i64 y.a, .int .i64 y.p, .int .i64 y.f, .bool y.w, .bool y.u, .bool y.x, .bool y.d] 31)) (by simp)
          have hsrc := hnb.src
          have hB4 := HB.out
          clear e2 HO HB
          obtain ⟨A4, c4v, rfl, _, _⟩ := hO4.form
          have HO4 := Lib.hid hO4
          clear hO4
          generalize hM : (L.take j).filter (fun h => !h.isK a pg) = M at *
          clear hM
          have hst4 := hst.alloc (.cells #[.int .i64 y.a, .int .i64 y.p, .int .i64 y.f, .bool y.w, .bool y.u, .bool y.x, .bool y.d] 31)
          have k4 := hst4.cell 1
          simp only [List.getElem?_toArray, List.getElem?_cons_succ, List.getElem?_cons_zero] at k4
          go_wp2_with (at_builtin; refine wpList_append_own_H rfl _ _ rfl _ M rfl HO4.out (some ⟨wr.heap.size, 0, none⟩) 1 1 [y] rfl hsrc rfl (by omega) ?_)
          intro v5 w5 ho5 hc5 hb5
          have hB5 := kept_app (w4 := wr.alloc (.cells #[.int .i64 y.a, .int .i64 y.p, .int .i64 y.f, .bool y.w, .bool y.u, .bool y.x, .bool y.d] 31)) (by rw [World.size_alloc]; exact hb5) hB4 hC4.size
          have hC5 := hC4.trans hc5 (fun i hi hm => absurd (hB4 i hm) (by omega))
          obtain ⟨A5, c5v, rfl, _, _⟩ := ho5.form
          go_wp2_with fail
          go_roundg (L.length - (j + 1))
          case measure => omega
          case rel => exact ⟨j + 1, by omega, by omega, by go_num, hC5, (show OwnH w5 _ _ by rw [HE2.out]; exact ho5), hB5⟩
      · have f1 : (y.a != a) = true := by simp [h1]
        have HK : Hid (y.isK a pg = false) := by show _ = _; rw [Bool.eq_false_iff, Ne, isK_iff]; exact fun e => h1 e.1
        clear h1
        have e2 : (L.take (j + 1)).filter (fun h => !h.isK a pg) = (L.take j).filter (fun h => !h.isK a pg) ++ [y] := by
          rw [HTK.out, List.filter_append, ← HG.out]; simp [HK.out]
        have HE2 := Lib.hid e2
        have hnb := BlkH.new wr y
        have hC4 := HC.out.alloc (.cells #[.int .i64 y.a, .int .i64 y.p, .int .i64 y.f, .bool y.w, .bool y.u, .bool y.x, .bool y.d] 31)
        have hO4 := HO.out.chg ((Chg.refl [] wr).alloc (.cells #[.int .i64 y.a, .int .i64 y.p, .int .i64 y.f, .bool y.w, .bool y.u, .bool y.x, .bool y.d] 31)) (by simp)
        have hsrc := hnb.src
        have hB4 := HB.out
        clear e2 HO HB
        obtain ⟨A4, c4v, rfl, _, _⟩ := hO4.form
        have HO4 := Lib.hid hO4
        clear hO4
        generalize hM : (L.take j).filter (fun h => !h.isK a pg) = M at *
        clear hM
        have hst4 := hst.alloc (.cells #[.int .i64 y.a, .int .i64 y.p, .int .i64 y.f, .bool y.w, .bool y.u, .bool y.x, .bool y.d] 31)
        have k4 := hst4.cell 1
        simp only [List.getElem?_toArray, List.getElem?_cons_succ, List.getElem?_cons_zero] at k4
        go_wp2_with (at_builtin; refine wpList_append_own_H rfl _ _ rfl _ M rfl HO4.out (some ⟨wr.heap.size, 0, none⟩) 1 1 [y] rfl hsrc rfl (by omega) ?_)
        intro v5 w5 ho5 hc5 hb5
        have hB5 := kept_app (w4 := wr.alloc (.cells #[.int .i64 y.a, .int .i64 y.p, .int .i64 y.f, .bool y.w, .bool y.u, .bool y.x, .bool y.d] 31)) (by rw [World.size_alloc]; exact hb5) hB4 hC4.size
        have hC5 := hC4.trans hc5 (fun i hi hm => absurd (hB4 i hm) (by omega))
        obtain ⟨A5, c5v, rfl, _, _⟩ := ho5.form
        go_wp2_with fail
        go_roundg (L.length - (j + 1))
        case measure => omega
        case rel => exact ⟨j + 1, by omega, by omega, by go_num, hC5, (show OwnH w5 _ _ by rw [HE2.out]; exact ho5), hB5⟩
    · have hltz : ¬ (j : Int) < (L.length : Int) := by omega
      have hjn : j = L.length := by omega
      have hX : (L.take j).filter (fun h => !h.isK a pg) = dropT L a pg := by rw [hjn, List.take_length]; rfl
      have HX := Lib.hid hX
      have hO := HO.out
      obtain ⟨A4, c4v, rfl, _, _⟩ := hO.form
      have HOO := Lib.hid hO
      have f1 := hst.frozen 1
      have hst' := Lib.hid hst
      clear hX hO HO hst hjn hlt'
      generalize (L.take j).filter (fun h => !h.isK a pg) = X at *
      go_wp2_with fail
      go_ret
      have hcl : Chg [p] wr (wr.setCell ⟨p, 1, none⟩ (.slice A4 X.length c4v)) := (Chg.refl _ _).setCell (by simp) _
      have hnp : p ∉ (Value.slice A4 X.length c4v).ownBlock.toList := fun hm => by have := HB.out p hm; omega
      refine ⟨ret_bool (by rw [HX.out]; exact drop_has L a pg), (HC.out.weak (by simp)).trans (hcl.weak (T := p :: (Value.slice A0 L.length c0v).ownBlock.toList) (by intro k _ hk; simp at hk; subst hk; simp)) (fun _ _ h => h), _, ⟨.slice A4 X.length c4v, ⟨hst'.out.set_ 1 _, ?_, ?_, hlo, hhi⟩, rfl⟩, ?_⟩
      · rw [← HX.out]; exact HOO.out.chg hcl (by intro g hg hm; simp at hm; subst hm; exact hnp hg)
      · exact Nat.le_trans (List.length_filter_le _ _) hle
      · intro i hi
        simp only [List.mem_cons] at hi
        rcases hi with rfl | hi
        · exact .inl (by simp)
        · exact .inr (HB.out i hi)

set_option maxRecDepth 100000 in
set_option maxHeartbeats 4000000 in
theorem RTFlush_at (S : List Nat) (p most : Nat) (L : List Ht) (a : Int) (w : World) (h : RTAt w S p most L) :
    Calls Try.prog 16 #[.pointer (some ⟨p, 0, none⟩), .int .i64 a] w fun e w' => ∃ S', e = .returned (.tuple #[]) ∧ Chg S w w' ∧ RTAt w' S' p most (flushT L a) ∧ Grew w S S' := by
  obtain ⟨v0, h, rfl⟩ := h
  have hlt := h.st.lt
  have hle := h.le; have hlo := h.lo; have hhi := h.hi
  have hst0 := h.st
  have HH := Lib.hid h
  obtain ⟨A0, c0v, rfl, _, _⟩ := h.ow.form
  have hs0 := h.ow.slh
  have hne := h.ne
  clear h
  go_enter Try.func16, Try.ntmps16
  go_wp2_with fail
  go_loopg [4, 5] L.length (fun gg sv si wr => ∃ j : Nat, j ≤ L.length ∧ L.length - j ≤ gg ∧ si = .int .i64 j ∧ Aside (Chg [] w wr) ∧ Aside (OwnH wr sv ((L.take j).filter (fun h => !(h.a == a)))) ∧ Aside (∀ g ∈ sv.ownBlock.toList, w.heap.size ≤ g))
  case atStart => exact ⟨0, by omega, by omega, rfl, Chg.refl _ _, OwnH.none_ _, fun g hg => by simp [Value.ownBlock] at hg⟩
  case round =>
    obtain ⟨j, hj, hg, rfl, HC, HO, HB⟩ := hrel
    have hst := HC.out.blk hst0 (by simp)
    have k1 := hst.cell 1
    simp only [List.getElem?_toArray, List.getElem?_cons_succ, List.getElem?_cons_zero] at k1
    by_cases hlt' : j < L.length
    · have hltz : (j : Int) < (L.length : Int) := by omega
      obtain ⟨b, off, rfl, hb, hc⟩ := (hs0.new HC.out).get hlt'
      have HG := Lib.hid (getD_lt hlt')
      have HTK := Lib.hid (List.take_succ_eq_append_getElem hlt')
      obtain ⟨c0, c1, c2, c3, c4, c5, c6⟩ := hc
      generalize L.getD j default = y at *
      have hML : ((L.take j).filter (fun h => !(h.a == a))).length ≤ 512 := Nat.le_trans (List.length_filter_le _ _) (by simp; omega)
      by_cases h1 : y.a = a
      · have f1 : (y.a != a) = false := by simp [h1]
        have HK : Hid ((y.a == a) = true) := by show _ = _; simp [h1]
        clear h1
        have e2 : (L.take (j + 1)).filter (fun h => !(h.a == a)) = (L.take j).filter (fun h => !(h.a == a)) := by
          rw [HTK.out, List.filter_append, ← HG.out]; simp [HK.out]
        have HE2 := Lib.hid e2
        clear e2
        go_wp2_with fail
        go_roundg (L.length - (j + 1))
        case measure => omega
        case rel => exact ⟨j + 1, by omega, by omega, by go_num, HC.out, (show OwnH wr _ _ by rw [HE2.out]; exact HO.out), HB.out⟩
      · have f1 : (y.a != a) = true := by simp [h1]
        have HK : Hid ((y.a == a) = false) := by show _ = _; simp [h1]
        clear h1
        have e2 : (L.take (j + 1)).filter (fun h => !(h.a == a)) = (L.take j).filter (fun h => !(h.a == a)) ++ [y] := by
          rw [HTK.out, List.filter_append, ← HG.out]; simp [HK.out]
        have HE2 := Lib.hid e2
        have hnb := BlkH.new wr y
        have hC4 := HC.out.alloc (.cells #[.int .i64 y.a, .int .i64 y.p, .int .i64 y.f, .bool y.w, .bool y.u, .bool y.x, .bool y.d] 31)
        have hO4 := HO.out.chg ((Chg.refl [] wr).alloc (.cells #[.int .i64 y.a, .int .i64 y.p, .int .i64 y.f, .bool y.w, .bool y.u, .bool y.x, .bool y.d] 31)) (by simp)
        have hsrc := hnb.src
        have hB4 := HB.out
        clear e2 HO HB
        obtain ⟨A4, c4v, rfl, _, _⟩ := hO4.form
        have HO4 := Lib.hid hO4
        clear hO4
        generalize hM : (L.take j).filter (fun h => !(h.a == a)) = M at *
        clear hM
        have hst4 := hst.alloc (.cells #[.int .i64 y.a, .int .i64 y.p, .int .i64 y.f, .bool y.w, .bool y.u, .bool y.x, .bool y.d] 31)
        have k4 := hst4.cell 1
        simp only [List.getElem?_toArray, List.getElem?_cons_succ, List.getElem?_cons_zero] at k4
        go_wp2_with (at_builtin; refine wpList_append_own_H rfl _ _ rfl _ M rfl HO4.out (some ⟨wr.heap.size, 0, none⟩) 1 1 [y] rfl hsrc rfl (by omega) ?_)
        intro v5 w5 ho5 hc5 hb5
        have hB5 := kept_app (w4 := wr.alloc (.cells #[.int .i64 y.a, .int .i64 y.p, .int .i64 y.f, .bool y.w, .bool y.u, .bool y.x, .bool y.d] 31)) (by rw [World.size_alloc]; exact hb5) hB4 hC4.size
        have hC5 := hC4.trans hc5 (fun i hi hm => absurd (hB4 i hm) (by omega))
        obtain ⟨A5, c5v, rfl, _, _⟩ := ho5.form
        go_wp2_with fail
        go_roundg (L.length - (j + 1))
        case measure => omega
        case rel => exact ⟨j + 1, by omega, by omega, by go_num, hC5, (show OwnH w5 _ _ by rw [HE2.out]; exact ho5), hB5⟩
    · have hltz : ¬ (j : Int) < (L.length : Int) := by omega
      have hjn : j = L.length := by omega
      have hX : (L.take j).filter (fun h => !(h.a == a)) = flushT L a := by rw [hjn, List.take_length]; rfl
      have HX := Lib.hid hX
      have hO := HO.out
      obtain ⟨A4, c4v, rfl, _, _⟩ := hO.form
      have HOO := Lib.hid hO
      have f1 := hst.frozen 1
      have hst' := Lib.hid hst
      clear hX hO HO hst hjn hlt'
      generalize (L.take j).filter (fun h => !(h.a == a)) = X at *
      go_wp2_with fail
      go_end0
      have hcl : Chg [p] wr (wr.setCell ⟨p, 1, none⟩ (.slice A4 X.length c4v)) := (Chg.refl _ _).setCell (by simp) _
      have hnp : p ∉ (Value.slice A4 X.length c4v).ownBlock.toList := fun hm => by have := HB.out p hm; omega
      refine ⟨rfl, (HC.out.weak (by simp)).trans (hcl.weak (T := p :: (Value.slice A0 L.length c0v).ownBlock.toList) (by intro k _ hk; simp at hk; subst hk; simp)) (fun _ _ h => h), _, ⟨.slice A4 X.length c4v, ⟨hst'.out.set_ 1 _, ?_, ?_, hlo, hhi⟩, rfl⟩, ?_⟩
      · rw [← HX.out]; exact HOO.out.chg hcl (by intro g hg hm; simp at hm; subst hm; exact hnp hg)
      · exact Nat.le_trans (List.length_filter_le _ _) hle
      · intro i hi
        simp only [List.mem_cons] at hi
        rcases hi with rfl | hi
        · exact .inl (by simp)
        · exact .inr (HB.out i hi)

end Go.Proofs.Ytikdoldmhlbklaa
