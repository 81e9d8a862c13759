/-
 LawTlbWithin, TlbP, TlbQ, TlbR in one text.
-/
import Derived.Test.YtgjfidjhbkaobaaGreatG9bK
namespace Go.Proofs.YtgjfidjhbkaobaaGreat
open Go.RowKit Go.Shelf
theorem SlH.drop {w : World} {b off n d : Nat} {L : List Ht} {A' : Option Addr} (h : SlH w (some ⟨b, off, none⟩) n L) (hd : d ≤ n) (hA : n - d = 0 ∨ A' = some ⟨b, off + d * 7, none⟩) : SlH w A' (n - d) (L.drop d) :=
 ⟨by rw [List.length_drop, h.len], by have := h.le; omega, fun h0 => by
  rcases hA with e | rfl
  ·omega
  obtain ⟨b', off', e, hb, hr⟩ := h.at_ (by omega)
  injection e with e; injection e with e1 e2
  subst e1; subst e2
  exact ⟨b, off + d * 7, rfl, hb, fun j x hx => by
   rw [List.getElem?_drop] at hx
   have := hr (d + j) x hx
   rw [show off + d * 7 + j * 7 = off + (d + j) * 7 by omega]; exact this⟩⟩
structure RTIn (w : World) (p most : Nat) (v : Value) (L : List Ht) : Prop where
 st : Blk w p 106 #[.int .i64 most, v]
 ow : OwnH w v L
 le : L.length ≤ most
 lo : 1 ≤ most
 hi : most ≤ 512
def RTAt (w : World) (S : List Nat) (p most : Nat) (L : List Ht) : Prop := ∃ v, RTIn w p most v L ∧ S = p :: v.ownBlock.toList
section
variable {w w' : World} {S T : List Nat} {p most : Nat} {v : Value} {L : List Ht}
theorem RTIn.ne (h : RTIn w p most v L) : ∀ g ∈ v.ownBlock.toList, g ≠ p := fun g hg => by
 obtain ⟨cur, hb⟩ := h.ow.blk hg
 exact hb.type_ne h.st (by decide)
theorem RTIn.chg (h : RTIn w p most v L) (hc : Chg T w w') (hp : p ∉ T) (hg : ∀ g ∈ v.ownBlock.toList, g ∉ T) : RTIn w' p most v L :=
 ⟨hc.blk h.st hp, h.ow.chg hc hg, h.le, h.lo, h.hi⟩
theorem RTIn.c (h : RTIn w p most v L) : w.cell? ⟨p, 0, none⟩ = some (.int .i64 most) ∧ w.cell? ⟨p, 1, none⟩ = some v := by
 have h0 := h.st.cell 0; have h1 := h.st.cell 1
 simp only [qA, qS, qZ] at h0 h1
 exact ⟨h0, h1⟩
theorem RTAt.chg (h : RTAt w S p most L) (hc : Chg T w w') (hd : ∀ i ∈ S, i ∉ T) : RTAt w' S p most L := by
 obtain ⟨v, h, rfl⟩ := h
 exact ⟨v, h.chg hc (hd p (by simp)) (fun g hg => hd g (by simp only [List.mem_cons]; exact .inr hg)), rfl⟩
theorem RTAt.self (h : RTAt w S p most L) (hc : Chg [] w w') : RTAt w' S p most L := h.chg hc (by simp)
theorem RTAt.lt (h : RTAt w S p most L) : ∀ i ∈ S, i < w.heap.size := by
 obtain ⟨v, h, rfl⟩ := h
 intro i hi
 simp only [List.mem_cons] at hi
 rcases hi with rfl | hi
 ·exact h.st.lt
 exact h.ow.lt i hi
end
set_option maxHeartbeats 400000 in
theorem RTNew_in (n : Nat) (w : World) (h1 : 1 ≤ n) (h2 : n ≤ 512) :
  Calls Tryz.prog 46 #[.int .i64 n] w fun e w' => e = .returned (.pointer (some ⟨w.heap.size, 0, none⟩)) ∧ Chg [] w w' ∧ RTAt w' [w.heap.size] w.heap.size n [] := by
 have e1 : ¬ (n : Int) < 1 := by omega
 have e2 : ¬ (n : Int) > 512 := by omega
 go_enter Tryz.func46, Tryz.ntmps46
 go_wp2
 all_goals go_ret
 all_goals exact ⟨rfl, (Chg.refl _ _).alloc _, .slice none 0 0, ⟨Blk.new w 106 #[.int .i64 n, .slice none 0 0], OwnH.none_ _, by simp, h1, h2⟩, rfl⟩
set_option maxHeartbeats 400000 in
theorem RTAll_at (S : List Nat) (p most : Nat) (L : List Ht) (w : World) (h : RTAt w S p most L) :
  Calls Tryz.prog 102 #[.pointer (some ⟨p, 0, none⟩)] w fun e w' => ∃ S', e = .returned (.tuple #[]) ∧ Chg S w w' ∧ RTAt w' S' p most [] ∧ Grew w S S' := by
 obtain ⟨v, h, rfl⟩ := h
 obtain ⟨c0, c1⟩ := h.c
 have f1 := h.st.frozen 1
 go_enter Tryz.func102, Tryz.ntmps102
 go_wp2
 go_end0
 refine ⟨[p], rfl, (Chg.refl _ _).setCell (by simp) _, ⟨.slice none 0 0, ⟨?_, OwnH.none_ _, by simp, h.lo, h.hi⟩, rfl⟩, fun i hi => .inl (by simp at hi; subst hi; simp)⟩
 exact h.st.set_ 1 _
set_option maxHeartbeats 1000000 in
theorem RTList_at (S : List Nat) (p most : Nat) (L : List Ht) (w : World) (h : RTAt w S p most L) :
  Calls Tryz.prog 19 #[.pointer (some ⟨p, 0, none⟩)] w fun e w' => ∃ v, e = .returned v ∧ Chg [] w w' ∧ OwnH w' v L ∧ ∀ g ∈ v.ownBlock.toList, w.heap.size ≤ g := by
 obtain ⟨v, h, rfl⟩ := h
 have hc0 : Chg [] w (w.alloc (.cells #[] 94)) := (Chg.refl _ _).alloc _
 have h1 := h.chg hc0 (by simp) (by simp)
 obtain ⟨c0, c1⟩ := h1.c
 obtain ⟨A, c, rfl, hA, _⟩ := h.ow.form
 have hsrc := h1.ow.src
 have hle := h.le; have hhi := h.hi
 have hmade : OwnH (w.alloc (.cells #[] 94)) (.slice (some ⟨w.heap.size, 0, none⟩) 0 0) [] := World.ownsRow_made w #[] 0 (Nat.zero_le _) (Nat.zero_le _) (by simp)
 clear h h1 hA
 have HL := Lib.hid (show L.length = L.length from rfl)
 go_enter Tryz.func19, Tryz.ntmps19
 go_wp2_with (at_builtin; refine wpList_append_own_H rfl _ _ rfl _ [] rfl hmade A L.length c L rfl hsrc rfl (by simp; omega) ?_)
 intro v' w1 hown hch hb
 obtain ⟨A', c', rfl, _, _⟩ := hown.form
 go_wp2_with fail
 go_ret
 refine ⟨_, rfl, hc0.trans hch (by intro i hi hm; simp [Value.ownBlock] at hm; omega), by simpa using hown, fun g hg => ?_⟩
 change g ∈ (Value.slice A' _ c').ownBlock.toList at hg
 rcases hb with e | e
 ·rw [e] at hg; simp [Value.ownBlock] at hg; omega
 rw [e] at hg; simp at hg; omega
theorem kept_app {w w4 : World} {v v5 : Value} (hb : v5.ownBlock = v.ownBlock ∨ v5.ownBlock = some w4.heap.size) (hv : ∀ g ∈ v.ownBlock.toList, w.heap.size ≤ g) (hs : w.heap.size ≤ w4.heap.size) : ∀ g ∈ v5.ownBlock.toList, w.heap.size ≤ g := fun g hg => by
 rcases hb with e | e
 ·rw [e] at hg; exact hv g hg
 rw [e] at hg; simp at hg; omega
theorem drop_has (L : List Ht) (a p : Int) : decide ((dropT L a p).length < L.length) = hasT L a p := by
 unfold dropT hasT
 induction L with
 | nil => simp
 | cons y t ih =>
  have hle := List.length_filter_le (fun h : Ht => !h.isK a p) t
  cases hy : y.isK a p with
  | true =>
   rw [List.filter_cons_of_neg (by simp [hy]), List.any_cons, hy]
   simp; omega
  | false =>
   rw [List.filter_cons_of_pos (by simp [hy]), List.any_cons, hy, ← ih]
   simp
set_option maxRecDepth 100000 in
set_option maxHeartbeats 4000000 in
theorem RTDrop_at (S : List Nat) (p most : Nat) (L : List Ht) (a pg : Int) (w : World) (h : RTAt w S p most L) :
  Calls Tryz.prog 110 #[.pointer (some ⟨p, 0, none⟩), .int .i64 a, .int .i64 pg] w fun e w' => ∃ S', e = .returned (.bool (hasT L a pg)) ∧ Chg S w w' ∧ RTAt w' S' p most (dropT L a pg) ∧ Grew w S S' := by
 obtain ⟨v0, h, rfl⟩ := h
 have hlt := h.st.lt
 have hle := h.le; have hlo := h.lo; have hhi := h.hi
 have hst0 := h.st
 have HH := Lib.hid h
 obtain ⟨A0, c0v, rfl, _, _⟩ := h.ow.form
 have hs0 := h.ow.slh
 have hne := h.ne
 clear h
 go_enter Tryz.func110, Tryz.ntmps110
 go_wp2_with fail
 go_loopg [7, 8] L.length (fun gg sv si wr => ∃ j : Nat, j ≤ L.length ∧ L.length - j ≤ gg ∧ si = .int .i64 j ∧ Aside (Chg [] w wr) ∧ Aside (OwnH wr sv ((L.take j).filter (fun h => !h.isK a pg))) ∧ Aside (∀ g ∈ sv.ownBlock.toList, w.heap.size ≤ g))
 case atStart => exact ⟨0, by omega, by omega, rfl, Chg.refl _ _, OwnH.none_ _, fun g hg => by simp [Value.ownBlock] at hg⟩
 obtain ⟨j, hj, hg, rfl, HC, HO, HB⟩ := hrel
 have hst := HC.out.blk hst0 (by simp)
 have k1 := hst.cell 1
 simp only [qA, qS, qZ] at k1
 by_cases hlt' : j < L.length
 ·have hltz : (j : Int) < (L.length : Int) := by omega
  obtain ⟨b, off, rfl, hb, hc⟩ := (hs0.new HC.out).get hlt'
  have HG := Lib.hid (getD_lt hlt')
  have HTK := Lib.hid (List.take_succ_eq_append_getElem hlt')
  obtain ⟨c0, c1, c2, c3, c4, c5, c6⟩ := hc
  generalize L.getD j default = y at *
  have hML : ((L.take j).filter (fun h => !h.isK a pg)).length ≤ 512 := Nat.le_trans (List.length_filter_le _ _) (by simp; omega)
  by_cases h1 : y.a = a
  ·have f1 : (y.a != a) = false := by simp [h1]
   by_cases h2 : y.p = pg
   ·have f2 : (y.p != pg) = false := by simp [h2]
    have HK : Hid (y.isK a pg = true) := (isK_iff y a pg).2 ⟨h1, h2⟩
    clear h1 h2
    have e2 : (L.take (j + 1)).filter (fun h => !h.isK a pg) = (L.take j).filter (fun h => !h.isK a pg) := by
     rw [HTK.out, List.filter_append, ← HG.out]; simp [HK.out]
    have HE2 := Lib.hid e2
    clear e2
    go_wp2_with fail
    go_roundg (L.length - (j + 1))
    case measure => omega
    case rel => exact ⟨j + 1, by omega, by omega, by go_num, HC.out, (show OwnH wr _ _ by rw [HE2.out]; exact HO.out), HB.out⟩
   have f2 : (y.p != pg) = true := by simp [h2]
   have HK : Hid (y.isK a pg = false) := by show _ = _; rw [Bool.eq_false_iff, Ne, isK_iff]; exact fun e => h2 e.2
   clear h1 h2
   have e2 : (L.take (j + 1)).filter (fun h => !h.isK a pg) = (L.take j).filter (fun h => !h.isK a pg) ++ [y] := by
    rw [HTK.out, List.filter_append, ← HG.out]; simp [HK.out]
   have HE2 := Lib.hid e2
   have hnb := BlkH.new wr y
   have hC4 := HC.out.alloc (.cells #[.int .i64 y.a, .int .i64 y.p, .int .i64 y.f, .bool y.w, .bool y.u, .bool y.x, .bool y.d] 94)
   have hO4 := HO.out.chg ((Chg.refl [] wr).alloc (.cells #[.int .i64 y.a, .int .i64 y.p, .int .i64 y.f, .bool y.w, .bool y.u, .bool y.x, .bool y.d] 94)) (by simp)
   have hsrc := hnb.src
   have hB4 := HB.out
   clear e2 HO HB
   obtain ⟨A4, c4v, rfl, _, _⟩ := hO4.form
   have HO4 := Lib.hid hO4
   clear hO4
   generalize hM : (L.take j).filter (fun h => !h.isK a pg) = M at *
   clear hM
   have hst4 := hst.alloc (.cells #[.int .i64 y.a, .int .i64 y.p, .int .i64 y.f, .bool y.w, .bool y.u, .bool y.x, .bool y.d] 94)
   have k4 := hst4.cell 1
   simp only [qA, qS, qZ] at k4
   go_wp2_with (at_builtin; refine wpList_append_own_H rfl _ _ rfl _ M rfl HO4.out (some ⟨wr.heap.size, 0, none⟩) 1 1 [y] rfl hsrc rfl (by omega) ?_)
   intro v5 w5 ho5 hc5 hb5
   have hB5 := kept_app (w4 := wr.alloc (.cells #[.int .i64 y.a, .int .i64 y.p, .int .i64 y.f, .bool y.w, .bool y.u, .bool y.x, .bool y.d] 94)) (by rw [World.size_alloc]; exact hb5) hB4 hC4.size
   have hC5 := hC4.trans hc5 (fun i hi hm => absurd (hB4 i hm) (by omega))
   obtain ⟨A5, c5v, rfl, _, _⟩ := ho5.form
   go_wp2_with fail
   go_roundg (L.length - (j + 1))
   case measure => omega
   case rel => exact ⟨j + 1, by omega, by omega, by go_num, hC5, (show OwnH w5 _ _ by rw [HE2.out]; exact ho5), hB5⟩
  have f1 : (y.a != a) = true := by simp [h1]
  have HK : Hid (y.isK a pg = false) := by show _ = _; rw [Bool.eq_false_iff, Ne, isK_iff]; exact fun e => h1 e.1
  clear h1
  have e2 : (L.take (j + 1)).filter (fun h => !h.isK a pg) = (L.take j).filter (fun h => !h.isK a pg) ++ [y] := by
   rw [HTK.out, List.filter_append, ← HG.out]; simp [HK.out]
  have HE2 := Lib.hid e2
  have hnb := BlkH.new wr y
  have hC4 := HC.out.alloc (.cells #[.int .i64 y.a, .int .i64 y.p, .int .i64 y.f, .bool y.w, .bool y.u, .bool y.x, .bool y.d] 94)
  have hO4 := HO.out.chg ((Chg.refl [] wr).alloc (.cells #[.int .i64 y.a, .int .i64 y.p, .int .i64 y.f, .bool y.w, .bool y.u, .bool y.x, .bool y.d] 94)) (by simp)
  have hsrc := hnb.src
  have hB4 := HB.out
  clear e2 HO HB
  obtain ⟨A4, c4v, rfl, _, _⟩ := hO4.form
  have HO4 := Lib.hid hO4
  clear hO4
  generalize hM : (L.take j).filter (fun h => !h.isK a pg) = M at *
  clear hM
  have hst4 := hst.alloc (.cells #[.int .i64 y.a, .int .i64 y.p, .int .i64 y.f, .bool y.w, .bool y.u, .bool y.x, .bool y.d] 94)
  have k4 := hst4.cell 1
  simp only [qA, qS, qZ] at k4
  go_wp2_with (at_builtin; refine wpList_append_own_H rfl _ _ rfl _ M rfl HO4.out (some ⟨wr.heap.size, 0, none⟩) 1 1 [y] rfl hsrc rfl (by omega) ?_)
  intro v5 w5 ho5 hc5 hb5
  have hB5 := kept_app (w4 := wr.alloc (.cells #[.int .i64 y.a, .int .i64 y.p, .int .i64 y.f, .bool y.w, .bool y.u, .bool y.x, .bool y.d] 94)) (by rw [World.size_alloc]; exact hb5) hB4 hC4.size
  have hC5 := hC4.trans hc5 (fun i hi hm => absurd (hB4 i hm) (by omega))
  obtain ⟨A5, c5v, rfl, _, _⟩ := ho5.form
  go_wp2_with fail
  go_roundg (L.length - (j + 1))
  case measure => omega
  case rel => exact ⟨j + 1, by omega, by omega, by go_num, hC5, (show OwnH w5 _ _ by rw [HE2.out]; exact ho5), hB5⟩
 have hltz : ¬ (j : Int) < (L.length : Int) := by omega
 have hjn : j = L.length := by omega
 have hX : (L.take j).filter (fun h => !h.isK a pg) = dropT L a pg := by rw [hjn, List.take_length]; rfl
 have HX := Lib.hid hX
 have hO := HO.out
 obtain ⟨A4, c4v, rfl, _, _⟩ := hO.form
 have HOO := Lib.hid hO
 have f1 := hst.frozen 1
 have hst' := Lib.hid hst
 clear hX hO HO hst hjn hlt'
 generalize (L.take j).filter (fun h => !h.isK a pg) = X at *
 go_wp2_with fail
 go_ret
 have hcl : Chg [p] wr (wr.setCell ⟨p, 1, none⟩ (.slice A4 X.length c4v)) := (Chg.refl _ _).setCell (by simp) _
 have hnp : p ∉ (Value.slice A4 X.length c4v).ownBlock.toList := fun hm => by have := HB.out p hm; omega
 refine ⟨ret_bool (by rw [HX.out]; exact drop_has L a pg), (HC.out.weak (by simp)).trans (hcl.weak (T := p :: (Value.slice A0 L.length c0v).ownBlock.toList) (by intro k _ hk; simp at hk; subst hk; simp)) (fun _ _ h => h), _, ⟨.slice A4 X.length c4v, ⟨hst'.out.set_ 1 _, ?_, ?_, hlo, hhi⟩, rfl⟩, ?_⟩
 ·rw [← HX.out]; exact HOO.out.chg hcl (by intro g hg hm; simp at hm; subst hm; exact hnp hg)
 ·exact Nat.le_trans (List.length_filter_le _ _) hle
 intro i hi
 simp only [List.mem_cons] at hi
 rcases hi with rfl | hi
 ·exact .inl (by simp)
 exact .inr (HB.out i hi)
theorem made0 {w : World} {g : Nat} (h : Blk w g 94 #[]) : OwnH w (.slice (some ⟨g, 0, none⟩) 0 0) [] := by
 have hr : RowH w g [] [] := h
 exact hr.own_all 0 (by simp) (by decide)
set_option maxRecDepth 100000 in
set_option maxHeartbeats 8000000 in
theorem RTPut_at (S : List Nat) (p most : Nat) (L : List Ht) (h : Ht) (w : World) (hT : RTAt w S p most L) :
    Calls Tryz.prog 62 #[.pointer (some ⟨p, 0, none⟩), h.v] w fun e w' => e = .returned (.tuple #[]) ∧ Chg S w w' ∧ ∃ S', RTAt w' S' p most (putT most L h) ∧ Grew w S S' := by
  have hbx0 := BlkH.new w h
  have hc0 : Chg [] w (w.alloc (.cells #[.int .i64 h.a, .int .i64 h.p, .int .i64 h.f, .bool h.w, .bool h.u, .bool h.x, .bool h.d] 94)) := (Chg.refl [] w).alloc _
  have hT0 := hT.self hc0
  have hSlt := hT.lt
  have hbS : w.heap.size ∉ S := fun hm => Nat.lt_irrefl _ (hSlt _ hm)
  have hD := RTDrop_at S p most L h.a h.p _ hT0
  obtain ⟨b0, b1, b2, b3, b4, b5, b6⟩ := hbx0.cells
  obtain ⟨v0, _, hS⟩ := hT
  subst hS
  clear hT0
  unfold putT
  unfold Ht.v
  generalize dropT L h.a h.p = M at *
  generalize hasT L h.a h.p = t0 at *
  obtain ⟨N, hNe⟩ : ∃ N, N = cutT most M := ⟨_, rfl⟩
  rw [← hNe]
  have HNE := Lib.hid hNe
  clear hNe
  go_enter Tryz.func62, Tryz.ntmps62
  go_wp2_with fail
  refine hD.mono ?_; rintro e w1 ⟨S1, rfl, hc1, h1, hG1⟩
  have hbx1 := hbx0.chg hc1 hbS
  have hch1 := (hc0.weak (T := p :: v0.ownBlock.toList) (by simp)).trans hc1 (fun _ _ h => h)
  clear b0 b1 b2 b3 b4 b5 b6 hbx0 hD hc1
  obtain ⟨v1, h1, rfl⟩ := h1
  obtain ⟨d0, d1⟩ := h1.c
  have hMle := h1.le
  have hlo0 := h1.lo
  have hhi0 := h1.hi
  have hv1 : ∀ i ∈ v1.ownBlock.toList, i ∈ (p :: v0.ownBlock.toList) ∨ w.heap.size < i := fun i hi => by
    rcases hG1 i (List.mem_cons_of_mem _ hi) with h | h
    · exact .inl h
    · right; rw [World.size_alloc] at h; omega
  generalize hbxe : w.heap.size = bx at *
  have HBX := Lib.hid hbxe
  clear hbxe hG1
  have hbv1 : bx ∉ v1.ownBlock.toList := fun hm => by
    rcases hv1 bx hm with h | h
    · exact hbS h
    · omega
  have hbp : bx ≠ p := fun e => hbS (e ▸ List.mem_cons_self)
  have hbxlt := hbx1.lt
  obtain ⟨A, c, rfl, _, _⟩ := h1.ow.form
  by_cases hfull : M.length = most
  · have eN : M.drop 1 = N := by rw [HNE.out]; unfold cutT; rw [if_pos hfull]
    have hNl : (M.drop 1).length + 1 ≤ most := by simp; omega
    have e1 : ((M.length : Int) == most) = true := by simp [hfull]
    rw [eN] at hNl
    have HNL := Lib.hid hNl
    have hM1 : 1 ≤ M.length := by omega
    have HM1 := Lib.hid (show (M.drop 1).length = M.length - 1 by simp)
    obtain ⟨g, c', hgc⟩ := h1.ow.pos_ (by omega)
    injection hgc with hgA _ hgC
    subst hgA; subst hgC
    obtain ⟨tl, hrow, _, hcap, hmax, htl⟩ := h1.ow.row
    clear hNl hfull
    go_wp2_with fail
    go_quiet (fail)
    have h1q := h1.chg ((Chg.refl [] w1).drewN nq) (by simp) (by simp)
    have hbxq := hbx1.chg ((Chg.refl [] w1).drewN nq) (by simp)
    have hchq := hch1.drewN nq
    have hszq : (w1.drewN nq).heap.size = w1.heap.size := rfl
    have hrowq := hrow.chg ((Chg.refl [] w1).drewN nq) (by simp)
    clear d0 d1 hrow h1 hbx1 hch1 e1
    generalize w1.drewN nq = w2 at *
    have hA2 := (Chg.refl [] w2).alloc (.cells #[] 94)
    have hmade : OwnH (w2.alloc (.cells #[] 94)) (.slice (some ⟨w2.heap.size, 0, none⟩) 0 0) [] := made0 (Blk.new w2 _ #[])
    have hst2 := hA2.blk h1q.st (by simp)
    have k1 := hst2.cell 1
    simp only [qA, qS, qZ] at k1
    obtain ⟨A2, hA2', hs2⟩ : ∃ A2 : Addr, (if c = 1 then some (⟨g, 0, none⟩ : Addr) else some ⟨g, 7, none⟩) = some A2 ∧ Hid (∀ W, SlH W (some ⟨g, 0, none⟩) M.length M → SlH W (some A2) (M.length - 1) (M.drop 1)) := by
      by_cases e : c = 1
      · exact ⟨⟨g, 0, none⟩, by simp [e], fun W hW => hW.drop (by omega) (.inl (by omega))⟩
      · exact ⟨⟨g, 7, none⟩, by simp [e], fun W hW => hW.drop (by omega) (.inr (by simp))⟩
    have hsrc2 : Src (w2.alloc (.cells #[] 94)) 7 (some A2) (M.length - 1) (c - 1) (encH (M.drop 1)) := (hs2.out _ ((hrowq.chg hA2 (by simp)).own_all c htl hmax).slh).src (by simp)
    have hlM : M.length < 1000 := by omega
    have hbn : bx ∉ (Value.slice (some ⟨g, 0, none⟩) M.length c).ownBlock.toList := hbv1
    rw [eN] at hsrc2 HM1
    have HST2 := Lib.hid hst2
    have HHQ := Lib.hid h1q
    have hbx2 := hbxq.chg hA2 (by simp)
    have hch2 := hchq.trans hA2 (by simp)
    have hz2 : w2.heap.size = w1.heap.size := hszq
    have HZ2 := Lib.hid hz2
    have HTL := Lib.hid htl
    have hM1n : 1 ≤ c := by omega
    clear hst2 h1q hbxq hchq hrowq hz2 hszq htl eN
    have hML := HM1.out
    generalize hml : M.length = ml at *
    have HML := Lib.hid hml
    have HNM := Lib.hid hML
    clear hml hML HM1
    go_wp2_with (at_builtin; refine wpList_append_own_H rfl _ _ rfl _ [] rfl hmade (some A2) (ml - 1) (c - 1) N rfl hsrc2 HNM.out (by simp; omega) ?_)
    intro v3 w3 ho3 hc3 hb3
    have hpz : p ≠ w2.heap.size := by have := HHQ.out.st.lt; omega
    have hst3 := hc3.blk HST2.out (by simp [Value.ownBlock]; exact hpz)
    have f3 := hst3.frozen 1
    have k3 := hst3.cell 1
    simp only [qA, qS, qZ] at k3
    obtain ⟨A3, c3, rfl, _, _⟩ := ho3.form
    have ho3 : OwnH w3 (.slice A3 ([] ++ N).length c3) N := ho3
    simp only [List.nil_append] at ho3
    go_wp2_with fail
    have hcl : Chg [p] w3 (w3.setCell ⟨p, 1, none⟩ (.slice A3 N.length c3)) := (Chg.refl _ _).setCell (by simp) _
    have hnew3 : ∀ i ∈ (Value.slice A3 N.length c3).ownBlock.toList, w2.heap.size ≤ i := fun i hi => by
      rcases hb3 with e | e
      · change (Value.slice A3 N.length c3).ownBlock = _ at e
        rw [e] at hi; simp [Value.ownBlock] at hi; omega
      · change (Value.slice A3 N.length c3).ownBlock = _ at e
        rw [e] at hi; simp at hi; omega
    have hp2 := HHQ.out.st.lt
    have h3 : RTIn (w3.setCell ⟨p, 1, none⟩ (.slice A3 N.length c3)) p most (.slice A3 N.length c3) N := ⟨hst3.set_ 1 _, ho3.chg hcl (by intro i hi hm; simp at hm; subst hm; have := hnew3 i hi; omega), by have := HNL.out; omega, hlo0, hhi0⟩
    have hbx3 := (hbx2.chg hc3 (by simp [Value.ownBlock]; have := HZ2.out; omega)).chg hcl (by simpa using hbp)
    have hch3 := (hch2.trans hc3 (by intro i hi hm; simp [Value.ownBlock] at hm; have := hch2.size; have := HBX.out; have := HZ2.out; omega)).trans hcl (by intro k _ hk; simp at hk; subst hk; simp)
    have hv3 : ∀ i ∈ (Value.slice A3 N.length c3).ownBlock.toList, i ∈ (p :: v0.ownBlock.toList) ∨ bx < i := fun i hi => .inr (by have := hnew3 i hi; have := HZ2.out; omega)
    clear hnew3 hcl ho3 hst3 k3 f3 hb3 hc3 hbx2 hch2 k1 hsrc2 hmade hA2
    generalize hv3e : Value.slice A3 N.length c3 = v3 at *
    clear hv3e
    generalize w3.setCell ⟨p, 1, none⟩ v3 = w3 at *
    obtain ⟨A3, c3, rfl, _, _⟩ := h3.ow.form
    have hst3 := h3.st
    have how3 := h3.ow
    obtain ⟨d0, d1⟩ := h3.c
    obtain ⟨b0, b1, b2, b3, b4, b5, b6⟩ := hbx3.cells
    have hne3 := h3.ne
    have hlo := h3.lo; have hhi := h3.hi
    have hA0 := (Chg.refl [] w3).drew.alloc (.cells #[.int .i64 h.a, .int .i64 h.p, .int .i64 h.f, .bool h.w, .bool h.u, .bool h.x, .bool h.d] 94)
    have hnb : BlkH (w3.drew.alloc (.cells #[.int .i64 h.a, .int .i64 h.p, .int .i64 h.f, .bool h.w, .bool h.u, .bool h.x, .bool h.d] 94)) w3.heap.size h := BlkH.new w3.drew h
    have how4 := how3.chg hA0 (by simp)
    have hst4 := hA0.blk hst3 (by simp)
    have e4 := hst4.cell 1
    simp only [qA, qS, qZ] at e4
    have e4' : (w3.alloc (.cells #[.int .i64 h.a, .int .i64 h.p, .int .i64 h.f, .bool h.w, .bool h.u, .bool h.x, .bool h.d] 94)).cell? ⟨p, 1, none⟩ = some (.slice A3 N.length c3) := e4
    have hsrc := hnb.src
    have HST4 := Lib.hid hst4
    have hN3 := HNL.out
    have HN1 := Lib.hid (show N.length + 1 ≤ 1000000 by omega)
    have HCH := Lib.hid hch3
    clear h3 hst3 hst4 hnb hbx3 hch3 hN3
    go_region_law (refine step_append_H (some 37) rfl rfl (.tmp 34) (.tmp 36) rfl (.slice A3 N.length c3) N (by first | (simp [Act.eval]; done) | simp [Act.eval, Act.put]) how4 (some ⟨w3.heap.size, 0, none⟩) 1 1 [h] (by first | (simp [Act.eval]; done) | simp [Act.eval, Act.put]) hsrc rfl HN1.out ?_
                   intro v5 w5 ho5 hc5 hb5
                   have hst5 := hc5.blk HST4.out (fun hm => hne3 p hm rfl)
                   have f5 := hst5.frozen 1
                   have e5 := hst5.cell 1
                   simp only [qA, qS, qZ] at e5
                   obtain ⟨A5, c5, rfl, _, _⟩ := ho5.form
                   have HST5 := Lib.hid hst5
                   clear hst5)
    all_goals
      have hp4 : p < (w3.drew.alloc (.cells #[.int .i64 h.a, .int .i64 h.p, .int .i64 h.f, .bool h.w, .bool h.u, .bool h.x, .bool h.d] 94)).heap.size := HST4.out.lt
      have hcl : Chg [p] w5 (w5.setCell ⟨p, 1, none⟩ (.slice A5 (N ++ [h]).length c5)) := (Chg.refl _ _).setCell (by simp) _
      have hpn5 : p ∉ (Value.slice A5 (N ++ [h]).length c5).ownBlock.toList := put_own hb5 hp4 (fun hm => hne3 p hm rfl)
      have hk5 : Chg (p :: v0.ownBlock.toList) w w5 := by
        refine ((HCH.out.trans hA0 (by simp)).trans hc5 fun i hi hm => ?_)
        rcases hv3 i hm with h | h
        · exact h
        · have := HBX.out; omega
      have HC := Lib.hid (hk5.trans hcl (by intro k _ hk; simp at hk; subst hk; simp))
      have HO := Lib.hid (ho5.chg hcl (by intro i hi hm; simp at hm; subst hm; exact hpn5 hi))
      have HN5 := Lib.hid (show (N ++ [h]).length ≤ most by have := HNL.out; simp; omega)
      have HG := Lib.hid (show ∀ i ∈ (Value.slice A5 (N ++ [h]).length c5).ownBlock.toList, i ∈ (p :: v0.ownBlock.toList) ∨ w.heap.size ≤ i from fun i hi => by
        rcases hb5 with e | e
        · rw [e] at hi
          rcases hv3 i hi with h | h
          · exact .inl h
          · right; have := HBX.out; omega
        · rw [e] at hi; simp at hi
          right; have := HCH.out.size; omega)
      clear hcl hpn5 hk5 hb5 hc5 ho5
      rw [show (N ++ [h]).length = N.length + 1 by simp] at HC HO HG
      go_wp2_with fail
      go_end0
      refine ⟨rfl, HC.out, _, ⟨_, ⟨HST5.out.set_ 1 _, HO.out, HN5.out, hlo, hhi⟩, rfl⟩, fun i hi => ?_⟩
      simp only [List.mem_cons] at hi
      rcases hi with rfl | hi
      · exact .inl (by simp)
      · exact HG.out i hi
  · have eN : M = N := by rw [HNE.out]; unfold cutT; rw [if_neg hfull]
    have hNl : N.length + 1 ≤ most := by rw [← eN]; omega
    have e1 : ((M.length : Int) == most) = false := by rw [beq_eq_false_iff_ne]; omega
    have HNL := Lib.hid hNl
    have HEN := Lib.hid eN
    clear hNl hfull eN
    go_wp2_with fail
    go_quiet (fail)
    have h3 := h1.chg ((Chg.refl [] w1).drewN nq) (by simp) (by simp)
    have hbx3 := hbx1.chg ((Chg.refl [] w1).drewN nq) (by simp)
    have hch3 := hch1.drewN nq
    generalize w1.drewN nq = w3 at *
    rw [HEN.out] at h3
    obtain ⟨v3, hv3e⟩ : ∃ v3, v3 = Value.slice A M.length c := ⟨_, rfl⟩
    have hv3 : ∀ i ∈ v3.ownBlock.toList, i ∈ (p :: v0.ownBlock.toList) ∨ bx < i := fun i hi => by rw [hv3e] at hi; exact hv1 i hi
    rw [← HEN.out, ← hv3e, HEN.out] at h3
    clear hv3e
    go_wp2_with fail
    clear h1 hbx1 hch1 d0 d1 e1
    obtain ⟨A3, c3, rfl, _, _⟩ := h3.ow.form
    have hst3 := h3.st
    have how3 := h3.ow
    obtain ⟨d0, d1⟩ := h3.c
    obtain ⟨b0, b1, b2, b3, b4, b5, b6⟩ := hbx3.cells
    have hne3 := h3.ne
    have hlo := h3.lo; have hhi := h3.hi
    have hA0 := (Chg.refl [] w3).drew.alloc (.cells #[.int .i64 h.a, .int .i64 h.p, .int .i64 h.f, .bool h.w, .bool h.u, .bool h.x, .bool h.d] 94)
    have hnb : BlkH (w3.drew.alloc (.cells #[.int .i64 h.a, .int .i64 h.p, .int .i64 h.f, .bool h.w, .bool h.u, .bool h.x, .bool h.d] 94)) w3.heap.size h := BlkH.new w3.drew h
    have how4 := how3.chg hA0 (by simp)
    have hst4 := hA0.blk hst3 (by simp)
    have e4 := hst4.cell 1
    simp only [qA, qS, qZ] at e4
    have e4' : (w3.alloc (.cells #[.int .i64 h.a, .int .i64 h.p, .int .i64 h.f, .bool h.w, .bool h.u, .bool h.x, .bool h.d] 94)).cell? ⟨p, 1, none⟩ = some (.slice A3 N.length c3) := e4
    have hsrc := hnb.src
    have HST4 := Lib.hid hst4
    have hN3 := HNL.out
    have HN1 := Lib.hid (show N.length + 1 ≤ 1000000 by omega)
    have HCH := Lib.hid hch3
    clear h3 hst3 hst4 hnb hbx3 hch3 hN3
    go_region_law (refine step_append_H (some 37) rfl rfl (.tmp 34) (.tmp 36) rfl (.slice A3 N.length c3) N (by first | (simp [Act.eval]; done) | simp [Act.eval, Act.put]) how4 (some ⟨w3.heap.size, 0, none⟩) 1 1 [h] (by first | (simp [Act.eval]; done) | simp [Act.eval, Act.put]) hsrc rfl HN1.out ?_
                   intro v5 w5 ho5 hc5 hb5
                   have hst5 := hc5.blk HST4.out (fun hm => hne3 p hm rfl)
                   have f5 := hst5.frozen 1
                   have e5 := hst5.cell 1
                   simp only [qA, qS, qZ] at e5
                   obtain ⟨A5, c5, rfl, _, _⟩ := ho5.form
                   have HST5 := Lib.hid hst5
                   clear hst5)
    all_goals
      have hp4 : p < (w3.drew.alloc (.cells #[.int .i64 h.a, .int .i64 h.p, .int .i64 h.f, .bool h.w, .bool h.u, .bool h.x, .bool h.d] 94)).heap.size := HST4.out.lt
      have hcl : Chg [p] w5 (w5.setCell ⟨p, 1, none⟩ (.slice A5 (N ++ [h]).length c5)) := (Chg.refl _ _).setCell (by simp) _
      have hpn5 : p ∉ (Value.slice A5 (N ++ [h]).length c5).ownBlock.toList := put_own hb5 hp4 (fun hm => hne3 p hm rfl)
      have hk5 : Chg (p :: v0.ownBlock.toList) w w5 := by
        refine ((HCH.out.trans hA0 (by simp)).trans hc5 fun i hi hm => ?_)
        rcases hv3 i hm with h | h
        · exact h
        · have := HBX.out; omega
      have HC := Lib.hid (hk5.trans hcl (by intro k _ hk; simp at hk; subst hk; simp))
      have HO := Lib.hid (ho5.chg hcl (by intro i hi hm; simp at hm; subst hm; exact hpn5 hi))
      have HN5 := Lib.hid (show (N ++ [h]).length ≤ most by have := HNL.out; simp; omega)
      have HG := Lib.hid (show ∀ i ∈ (Value.slice A5 (N ++ [h]).length c5).ownBlock.toList, i ∈ (p :: v0.ownBlock.toList) ∨ w.heap.size ≤ i from fun i hi => by
        rcases hb5 with e | e
        · rw [e] at hi
          rcases hv3 i hi with h | h
          · exact .inl h
          · right; have := HBX.out; omega
        · rw [e] at hi; simp at hi
          right; have := HCH.out.size; omega)
      clear hcl hpn5 hk5 hb5 hc5 ho5
      rw [show (N ++ [h]).length = N.length + 1 by simp] at HC HO HG
      go_wp2_with fail
      go_end0
      refine ⟨rfl, HC.out, _, ⟨_, ⟨HST5.out.set_ 1 _, HO.out, HN5.out, hlo, hhi⟩, rfl⟩, fun i hi => ?_⟩
      simp only [List.mem_cons] at hi
      rcases hi with rfl | hi
      · exact .inl (by simp)
      · exact HG.out i hi
end Go.Proofs.YtgjfidjhbkaobaaGreat
