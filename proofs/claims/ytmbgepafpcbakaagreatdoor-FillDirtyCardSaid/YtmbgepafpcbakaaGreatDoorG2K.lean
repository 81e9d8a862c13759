/-
 FreeA, FreeB, FreeC, Refree, RefreeB, RefreeC in one text.
-/
import Derived.Test.YtmbgepafpcbakaaGreatDoorG0K
import Derived.Test.YtmbgepafpcbakaaGreatDoorProg
namespace Go.Proofs.YtmbgepafpcbakaaGreatDoor
open Go.RowKit Go.Maps
def dnk (x : Nat) : Nat → List Int
 | 0 => []
 | k + 1 => ((x : Int) + k) :: dnk x k
theorem dnk_len (x : Nat) : ∀ k, (dnk x k).length = k
 | 0 => rfl
 | k + 1 => by rw [dnk, List.length_cons, dnk_len x k]
theorem dnk_snoc (x : Nat) : ∀ k, dnk x (k + 1) = dnk (x + 1) k ++ [(x : Int)]
 | 0 => by simp [dnk]
 | k + 1 => by
  rw [dnk, dnk_snoc x k, dnk]
  simp only [List.cons_append, List.cons.injEq, and_true]; omega
theorem mem_dnk (x : Nat) (f : Int) : ∀ k, f ∈ dnk x k ↔ (x : Int) ≤ f ∧ f < x + k
 | 0 => by simp only [dnk, List.not_mem_nil, false_iff]; omega
 | k + 1 => by
  rw [dnk, List.mem_cons, mem_dnk x f k]; omega
def takenB (a x : Nat) (back : List Int) (f : Int) : Bool := decide ((a : Int) ≤ f ∧ f < x) && !back.contains f
structure FIn (w : World) (p m a n x : Nat) (v : Value) (back : List Int) : Prop where
 st : Blk w p 243 #[.int .i64 a, .int .i64 x, .int .i64 (a + n), v, .map (some m)]
 bk : OwnI w 3 .i64 v back
 mp : SetM Tryz.prog 3 w m (x - a - back.length) (takenB a x back)
 ax : a + back.length ≤ x
 xn : x ≤ a + n
 le : a + n ≤ 256
 mem : ∀ f ∈ back, (a : Int) ≤ f ∧ f < x
 nd : back.Nodup
section
variable {w w' : World} {p m a n x : Nat} {v : Value} {back : List Int}
theorem FIn.ne1 (h : FIn w p m a n x v back) : m ≠ p := h.mp.blk_ne h.st
theorem FIn.ne2 (h : FIn w p m a n x v back) : ∀ g ∈ v.ownBlock.toList, g ≠ p := fun g hg => by
 obtain ⟨cur, hb⟩ := h.bk.blk hg
 exact hb.type_ne h.st (by decide)
theorem FIn.ne3 (h : FIn w p m a n x v back) : ∀ g ∈ v.ownBlock.toList, g ≠ m := fun g hg => by
 obtain ⟨cur, hb⟩ := h.bk.blk hg
 exact (h.mp.blk_ne hb).symm
theorem FIn.chg {T : List Nat} (h : FIn w p m a n x v back) (hc : Chg T w w') (hp : p ∉ T) (hm : m ∉ T) (hg : ∀ g ∈ v.ownBlock.toList, g ∉ T) : FIn w' p m a n x v back :=
 ⟨hc.blk h.st hp, h.bk.chg hc hg, h.mp.chg hc hm, h.ax, h.xn, h.le, h.mem, h.nd⟩
theorem FIn.c (h : FIn w p m a n x v back) : w.cell? ⟨p, 0, none⟩ = some (.int .i64 a) ∧ w.cell? ⟨p, 1, none⟩ = some (.int .i64 x) ∧ w.cell? ⟨p, 2, none⟩ = some (.int .i64 (a + n)) ∧ w.cell? ⟨p, 3, none⟩ = some v ∧ w.cell? ⟨p, 4, none⟩ = some (.map (some m)) := by
 have h0 := h.st.cell 0; have h1 := h.st.cell 1; have h2 := h.st.cell 2; have h3 := h.st.cell 3; have h4 := h.st.cell 4
 simp only [qA, qS, qZ] at h0 h1 h2 h3 h4
 exact ⟨h0, h1, h2, h3, h4⟩
end
theorem zeroU (w : World) : (zeroValue 244).run Tryz.prog w = .ok (.agg #[]) w := by kernel_rfl
set_option maxRecDepth 100000 in
set_option maxHeartbeats 400000 in
theorem FNew_in (a n : Nat) (w : World) (h : a + n ≤ 256) :
  Calls Tryz.prog 102 #[.int .i64 a, .int .i64 n] w fun e w' => e = .returned (.pointer (some ⟨w.heap.size + 1, 0, none⟩)) ∧ Chg [] w w' ∧ FIn w' (w.heap.size + 1) w.heap.size a n a (.slice none 0 0) [] := by
 have hmm := @run_makeMap Tryz.prog
 go_enter Tryz.func102, Tryz.ntmps102
 go_wp2
 all_goals go_ret
 all_goals refine ⟨rfl, ((Chg.refl _ _).alloc _).alloc _, ?_⟩
 all_goals
  have hb := Blk.new (w.alloc (Obj.map #[] 0)) 243 #[.int .i64 a, .int .i64 a, .int .i64 (a + n), .slice none 0 0, .map (some w.heap.size)]
  simp only [World.alloc, Array.size_push] at hb
  exact ⟨hb, OwnI.none_ _ _ _, by
   have := (SetM.made w Tryz.prog 3).chg (T := []) ((Chg.refl _ _).alloc (Obj.cells #[.int .i64 a, .int .i64 a, .int .i64 (a + n), .slice none 0 0, .map (some w.heap.size)] 243)) (by simp)
   simpa using this.congr (S' := takenB a a []) (fun x => by simp [takenB]; try omega), by simp, by omega, h, by simp, by simp⟩
set_option maxRecDepth 100000 in
set_option maxHeartbeats 400000 in
theorem FLeft_any (p m a n x : Nat) (v : Value) (back : List Int) (w : World) (h : FIn w p m a n x v back) :
  Calls Tryz.prog 97 #[.pointer (some ⟨p, 0, none⟩)] w fun e w' => e = .returned (.int .i64 (a + n - x + back.length)) ∧ ∃ q, w' = w.drewN q := by
 obtain ⟨c0, c1, c2, c3, c4⟩ := h.c
 obtain ⟨A, c, rfl⟩ := h.bk.form
 have h1 := h.ax; have h2 := h.xn; have h3 := h.le
 clear h
 go_enter Tryz.func97, Tryz.ntmps97
 go_wp2
 go_quiet (fail)
 go_wp2
 go_ret
 exact ⟨ret_int (by omega), _, rfl⟩
set_option maxRecDepth 100000 in
set_option maxHeartbeats 400000 in
theorem pick_back (p m a n x : Nat) (g c : Nat) (bk : List Int) (f : Int) (w : World) (h : FIn w p m a n x (.slice (some ⟨g, 0, none⟩) (bk.length + 1) c) (bk ++ [f])) (hc : bk.length + 1 ≤ c) (hcm : c ≤ 9223372036854775807) :
  Calls Tryz.prog 170 #[.pointer (some ⟨p, 0, none⟩)] w fun e w' => e = .returned (.tuple #[.int .i64 f, .bool true]) ∧ w.setCell ⟨p, 3, none⟩ (.slice (some ⟨g, 0, none⟩) bk.length c) = w' := by
 obtain ⟨c0, c1, c2, c3, c4⟩ := h.c
 have f3 := h.st.frozen 3
 have d := h.bk.cell bk.length (by simp)
 simp only [List.getD_eq_getElem?_getD, List.getElem?_append_right (Nat.le_refl _), Nat.sub_self, qZ, Option.getD_some] at d
 have h1 := h.ax; have h2 := h.xn; have h3 := h.le
 simp at h1
 clear h
 generalize bk.length = b at *
 go_enter Tryz.func170, Tryz.ntmps170
 go_wp2
 go_ret2
 exact ⟨rfl, rfl⟩
set_option maxRecDepth 100000 in
set_option maxHeartbeats 400000 in
theorem pick_next (p m a n x : Nat) (v : Value) (w : World) (h : FIn w p m a n x v []) (hx : x < a + n) :
  Calls Tryz.prog 170 #[.pointer (some ⟨p, 0, none⟩)] w fun e w' => e = .returned (.tuple #[.int .i64 x, .bool true]) ∧ ∃ q, (w.drewN q).setCell ⟨p, 1, none⟩ (.int .i64 (x + 1)) = w' := by
 obtain ⟨c0, c1, c2, c3, c4⟩ := h.c
 have f1 := h.st.frozen 1
 obtain ⟨A, c, rfl⟩ := h.bk.form
 have h1 := h.ax; have h3 := h.le
 simp at h1
 clear h
 have e1 : ((x : Int) == a + n) = false := by simp; omega
 go_enter Tryz.func170, Tryz.ntmps170
 go_wp2
 go_quiet (fail)
 go_wp2
 go_ret2
 exact ⟨rfl, _, rfl⟩
set_option maxRecDepth 100000 in
set_option maxHeartbeats 400000 in
theorem pick_none (p m a n x : Nat) (v : Value) (w : World) (h : FIn w p m a n x v []) (hx : x = a + n) :
  Calls Tryz.prog 170 #[.pointer (some ⟨p, 0, none⟩)] w fun e w' => e = .returned (.tuple #[.int .i64 0, .bool false]) ∧ ∃ q, w.drewN q = w' := by
 subst hx
 obtain ⟨c0, c1, c2, c3, c4⟩ := h.c
 obtain ⟨A, c, rfl⟩ := h.bk.form
 have h1 := h.ax; have h3 := h.le
 simp at h1
 clear h
 have e1 : (((a + n : Nat) : Int) == a + n) = true := by simp
 go_enter Tryz.func170, Tryz.ntmps170
 go_wp2
 go_quiet (fail)
 go_wp2
 go_ret2
 exact ⟨rfl, _, rfl⟩
def FAt (w : World) (S : List Nat) (p a n : Nat) (L : List Int) : Prop :=
 ∃ m x v back, FIn w p m a n x v back ∧ S = p :: m :: v.ownBlock.toList ∧ L = dnk x (a + n - x) ++ back
section
variable {w w' : World} {S T : List Nat} {p a n : Nat} {L : List Int}
theorem FAt.chg (h : FAt w S p a n L) (hc : Chg T w w') (hd : ∀ i ∈ S, i ∉ T) : FAt w' S p a n L := by
 obtain ⟨m, x, v, back, h, rfl, rfl⟩ := h
 exact ⟨m, x, v, back, h.chg hc (hd p (by simp)) (hd m (by simp)) (fun g hg => hd g (by simp only [List.mem_cons]; exact .inr (.inr hg))), rfl, rfl⟩
theorem FAt.lt (h : FAt w S p a n L) : ∀ i ∈ S, i < w.heap.size := by
 obtain ⟨m, x, v, back, h, rfl, rfl⟩ := h
 intro i hi
 simp only [List.mem_cons] at hi
 rcases hi with rfl | rfl | hi
 ·exact h.st.lt
 ·exact h.mp.lt
 exact h.bk.lt i hi
theorem FIn.mem_iff {m x : Nat} {v : Value} {back : List Int} (h : FIn w p m a n x v back) (f : Int) : f ∈ dnk x (a + n - x) ++ back ↔ ((a : Int) ≤ f ∧ f < a + n) ∧ takenB a x back f = false := by
 have h1 := h.ax; have h2 := h.xn; have h3 := h.mem f
 rw [List.mem_append, mem_dnk]
 unfold takenB
 by_cases hb : f ∈ back
 ·have h4 := h3 hb
  simp only [hb, or_true, true_iff]
  exact ⟨by omega, by rw [List.contains_iff_mem.2 hb]; simp⟩
 have hb' : back.contains f = false := by simpa using hb
 simp only [hb, or_false, hb', Bool.not_false, Bool.and_true, decide_eq_false_iff_not]
 omega
theorem dnk_nodup (x : Nat) : ∀ k, (dnk x k).Nodup
 | 0 => by simp [dnk]
 | k + 1 => by
  rw [dnk, List.nodup_cons, mem_dnk]
  exact ⟨by omega, dnk_nodup x k⟩
end
theorem FNew_at (a n : Nat) (w : World) (h : a + n ≤ 256) :
  Calls Tryz.prog 102 #[.int .i64 a, .int .i64 n] w fun e w' => ∃ p S, e = .returned (.pointer (some ⟨p, 0, none⟩)) ∧ Chg [] w w' ∧ FAt w' S p a n (dnk a n) ∧ ∀ i ∈ S, w.heap.size ≤ i :=
 (FNew_in a n w h).mono fun _ _ ⟨he, hc, hf⟩ => ⟨_, _, he, hc, ⟨_, _, _, _, hf, rfl, by rw [Nat.add_sub_cancel_left, List.append_nil]⟩, by simp [Value.ownBlock]⟩
theorem FLeft_at (S : List Nat) (p a n : Nat) (L : List Int) (w : World) (h : FAt w S p a n L) :
  Calls Tryz.prog 97 #[.pointer (some ⟨p, 0, none⟩)] w fun e w' => e = .returned (.int .i64 L.length) ∧ ∃ q, w' = w.drewN q := by
 obtain ⟨m, x, v, back, h, rfl, rfl⟩ := h
 refine (FLeft_any p m a n x v back w h).mono fun _ _ ⟨he, hq⟩ => ⟨he.trans (ret_int ?_), hq⟩
 have h1 := h.ax; have h2 := h.xn
 rw [List.length_append, dnk_len]; omega
def takeV (L : List Int) : Int := L.getLastD 0
def takeB (L : List Int) : Bool := !L.isEmpty
theorem takeV_app (L : List Int) (f : Int) : takeV (L ++ [f]) = f := by simp [takeV]
theorem takeB_app (L : List Int) (f : Int) : takeB (L ++ [f]) = true := by simp [takeB]
set_option maxRecDepth 100000 in
set_option maxHeartbeats 800000 in
theorem FTake_at (S : List Nat) (p a n : Nat) (L : List Int) (w : World) (h : FAt w S p a n L) :
  Calls Tryz.prog 100 #[.pointer (some ⟨p, 0, none⟩)] w fun e w' => e = .returned (.tuple #[.int .i64 (takeV L), .bool (takeB L)]) ∧ Chg S w w' ∧ FAt w' S p a n L.dropLast := by
 obtain ⟨m, x, v, back, h, rfl, rfl⟩ := h
 have h1 := h.ax; have h2 := h.xn; have h3 := h.le
 rcases List.eq_nil_or_concat back with rfl | ⟨bk, f, rfl⟩
 ·by_cases hx : x = a + n
  ·go_enter Tryz.func100, Tryz.ntmps100
   go_wp2_with fail
   refine (pick_none p m a n x v _ h hx).mono ?_; rintro e w' ⟨rfl, q, rfl⟩
   go_wp2_with fail
   go_ret2
   subst hx
   exact ⟨by simp [takeV, takeB, dnk], (Chg.refl _ _).drewN q, ⟨m, _, v, [], h.chg ((Chg.refl [] _).drewN q) (by simp) (by simp) (by simp), rfl, by simp [dnk]⟩⟩
  have hx' : x < a + n := by omega
  obtain ⟨c0, c1, c2, c3, c4⟩ := h.c
  have hmp : m ≠ p := h.ne1
  have hne := h.ne2
  have hS : takenB a x [] (x : Int) = false := by simp [takenB]
  have hwf : (Lit.int .i64 x).wf = true := WalkArith.wf_i64 (by omega)
  have hL : dnk x (a + n - x) = dnk (x + 1) (a + n - (x + 1)) ++ [(x : Int)] := by rw [← dnk_snoc, show a + n - (x + 1) + 1 = a + n - x by omega]
  go_enter Tryz.func100, Tryz.ntmps100
  go_wp2_with fail
  refine (pick_next p m a n x v _ h hx').mono ?_; rintro e w1 ⟨rfl, q, hw1⟩
  have hc1 : Chg [p] w w1 := hw1 ▸ ((Chg.refl [p] w).drewN q).setCell (by simp) _
  have hst1 : Blk w1 p 243 #[.int .i64 a, .int .i64 (x + 1), .int .i64 (a + n), v, .map (some m)] := by
   have := (h.st.drewN q).set_ 1 (.int .i64 (x + 1))
   rw [hw1] at this
   exact this
  have hm1 := h.mp.chg hc1 (by simpa using hmp)
  have hb1 := h.bk.chg hc1 (by simpa using hne)
  have d4 := hst1.cell 4
  simp only [qA, qS, qZ] at d4
  clear hw1
  have HL := Lib.hid hL; clear hL
  go_wp2_with (at_mapUpdate; refine wpList_store_set rfl _ _ _ 241 rfl 244 lawI Tryz.underlying241 Tryz.underlying3 m _ _ rfl hm1 (by simp [maxLen]; omega) x rfl rfl hwf hS ?_; intro w2 hm2 hc2)
  go_ret2
  have hc12 : Chg (p :: m :: v.ownBlock.toList) w w2 := (hc1.weak (T := p :: m :: v.ownBlock.toList) (by intro k _ hk; simp at hk; subst hk; simp)).trans hc2 (by intro k _ hk; simp at hk; subst hk; simp)
  refine ⟨by rw [List.append_nil, HL.out, takeV_app, takeB_app]; rfl, hc12, m, x + 1, v, [], ⟨?_, hb1.chg hc2 (by simpa using h.ne3), ?_, by simp; omega, by omega, by omega, by simp, by simp⟩, rfl, by rw [List.append_nil, HL.out]; simp⟩
  ·have := hc2.blk hst1 (by simpa using fun e => hmp e.symm)
   simpa using this
  have e : x + 1 - a - ([] : List Int).length = x - a - ([] : List Int).length + 1 := by simp at h1 ⊢; omega
  rw [e]
  exact hm2.congr fun y => by rw [Bool.eq_iff_iff]; simp [insS, takenB]; omega
 rw [List.concat_eq_append] at h h1
 obtain ⟨g, c, rfl, hcl, hcm⟩ := h.bk.pos_ (by simp)
 have hb0 := h.bk
 have hst0 := h.st
 have hfm := h.mem f (by simp)
 have hfn : f ∉ bk := by have := h.nd; rw [List.nodup_append] at this; exact fun hm => this.2.2 f hm f (by simp) rfl
 have hmp : m ≠ p := h.ne1
 have hgp : g ≠ p := h.ne2 g (by simp [Value.ownBlock])
 have hgm : g ≠ m := h.ne3 g (by simp [Value.ownBlock])
 have hS : takenB a x (bk ++ [f]) f = false := by simp [takenB]
 have hwf : (Lit.int .i64 f).wf = true := WalkArith.wf_i64 (by omega)
 simp only [List.length_append, List.length_cons, List.length_nil, Nat.zero_add] at h h1 hcl hb0 hst0
 have hP := pick_back p m a n x g c bk f w h hcl hcm
 go_enter Tryz.func100, Tryz.ntmps100
 go_wp2_with fail
 refine hP.mono ?_; rintro e w1 ⟨rfl, hw1⟩
 have hc1 : Chg [p] w w1 := hw1 ▸ (Chg.refl [p] w).setCell (by simp) _
 have hst1 : Blk w1 p 243 #[.int .i64 a, .int .i64 x, .int .i64 (a + n), .slice (some ⟨g, 0, none⟩) bk.length c, .map (some m)] := by
  have := hst0.set_ 3 (.slice (some ⟨g, 0, none⟩) bk.length c)
  rw [hw1] at this
  exact this
 have hm1 := h.mp.chg hc1 (by simpa using hmp)
 have hb1 : OwnI w1 3 .i64 (.slice (some ⟨g, 0, none⟩) bk.length c) bk := by
  have := (hb0.chg hc1 (by simpa [Value.ownBlock] using hgp)).take bk.length (by simp)
  simpa using this
 have d4 := hst1.cell 4
 simp only [qA, qS, qZ] at d4
 clear hw1 hP
 go_wp2_with (at_mapUpdate; refine wpList_store_set rfl _ _ _ 241 rfl 244 lawI Tryz.underlying241 Tryz.underlying3 m _ _ rfl hm1 (by simp [maxLen]; omega) f rfl rfl hwf hS ?_; intro w2 hm2 hc2)
 go_ret2
 have hc12 : Chg (p :: m :: (Value.slice (some ⟨g, 0, none⟩) (bk.length + 1) c).ownBlock.toList) w w2 := (hc1.weak (by intro k _ hk; simp at hk; subst hk; simp)).trans hc2 (by intro k _ hk; simp at hk; subst hk; simp)
 refine ⟨by rw [List.concat_eq_append, ← List.append_assoc, takeV_app, takeB_app]; rfl, hc12, m, x, .slice (some ⟨g, 0, none⟩) bk.length c, bk, ⟨?_, hb1.chg hc2 (by simpa [Value.ownBlock] using hgm), ?_, by omega, h2, h3, fun y hy => h.mem y (by simp [hy]), by have := h.nd; rw [List.nodup_append] at this; exact this.1⟩, rfl, by rw [List.concat_eq_append, ← List.append_assoc]; simp⟩
 ·exact hc2.blk hst1 (by simpa using fun e => hmp e.symm)
 have e : x - a - bk.length = x - a - (bk ++ [f]).length + 1 := by simp; omega
 rw [e]
 exact hm2.congr fun y => by
  rw [Bool.eq_iff_iff]
  by_cases hy : y = f
  ·subst hy; simp [insS, takenB, hfn]; omega
  simp [insS, takenB, hy]
set_option maxRecDepth 100000 in
set_option maxHeartbeats 400000 in
theorem FGive_no (p m a n x : Nat) (v : Value) (back : List Int) (f : Int) (w : World) (h : FIn w p m a n x v back) (hf : -9223372036854775808 ≤ f ∧ f ≤ 9223372036854775807) (ht : takenB a x back f = false) :
  Calls Tryz.prog 182 #[.pointer (some ⟨p, 0, none⟩), .int .i64 f] w fun e w' => e = .returned (.bool false) ∧ Chg [] w w' := by
 obtain ⟨c0, c1, c2, c3, c4⟩ := h.c
 have hwf := WalkArith.wf_i64 hf
 have hm := h.mp
 clear h
 go_enter Tryz.func182, Tryz.ntmps182
 go_wp2_with (at_lookup; refine wpList_lookup_set rfl _ _ 241 rfl 244 lawI Tryz.underlying241 Tryz.underlying3 (zeroU _) m _ _ rfl hm f rfl hwf ?_; rw [ht])
 go_ret
 exact ⟨rfl, (Chg.refl _ _).alloc _⟩
set_option maxRecDepth 100000 in
set_option maxHeartbeats 1000000 in
theorem FGive_yes (p m a n x : Nat) (v : Value) (back : List Int) (f : Int) (w : World) (h : FIn w p m a n x v back) (hf : -9223372036854775808 ≤ f ∧ f ≤ 9223372036854775807) (ht : takenB a x back f = true) :
    Calls Tryz.prog 182 #[.pointer (some ⟨p, 0, none⟩), .int .i64 f] w fun e w' => e = .returned (.bool true) ∧ Chg (p :: m :: v.ownBlock.toList) w w' ∧ ∃ v', FIn w' p m a n x v' (back ++ [f]) ∧ (∀ g ∈ v'.ownBlock.toList, g ∈ v.ownBlock.toList ∨ w.heap.size ≤ g) := by
  obtain ⟨c0, c1, c2, c3, c4⟩ := h.c
  have hwf := WalkArith.wf_i64 hf
  have hm := h.mp
  have hmp := h.ne1; have hgp := h.ne2; have hgm := h.ne3
  have hlt := h.st.lt; have hltm := h.mp.lt; have hltg := h.bk.lt
  have h1 := h.ax; have h2 := h.xn; have h3 := h.le
  obtain ⟨i0, hi0, hz0, hz1, hz2⟩ := info_parts int_info
  have hm1 := hm.chg (T := []) ((Chg.refl _ w).alloc (Obj.cells #[] 244)) (by simp)
  have hc01 : Chg [] w (w.alloc (Obj.cells #[] 244)) := (Chg.refl _ _).alloc _
  have hp : p ≠ w.heap.size := Nat.ne_of_lt hlt
  have hst1 := hc01.blk h.st (by simp)
  have hb1 := h.bk.chg hc01 (by simp)
  have d4 := hst1.cell 4
  simp only [qA, qS, qZ] at d4
  go_enter Tryz.func182, Tryz.ntmps182
  go_wp2_with (first
    | (at_lookup; refine wpList_lookup_set rfl _ _ 241 rfl 244 lawI Tryz.underlying241 Tryz.underlying3 (zeroU _) m _ _ rfl hm f rfl hwf ?_; rw [ht])
    | (at_delete; refine wpList_delete_set rfl _ _ 241 rfl 244 lawI Tryz.underlying241 Tryz.underlying3 m _ _ rfl hm1 f rfl hwf ht ?_
       intro w2 hm2 h0 hc2
       have hst2 := hc2.blk hst1 (by simpa using fun e => hmp e.symm)
       have hb2 := hb1.chg hc2 (by simpa using hgm)
       have d3 := hst2.cell 3
       have f3 := hst2.frozen 3
       simp only [qA, qS, qZ] at d3
       have hsz2 := hc2.size)
    | (at_builtin
       refine wpList_append_src rfl _ _ 43 rfl 0 3 i0 _ 1 8 Tryz.underlying43 hi0 hz0 hz1 hz2 rfl (by omega) v back.length (vals .i64 back) rfl (World.ownsRow.alloc hb2 _) (some ⟨w2.heap.size, 0, none⟩) 1 1 [.int .i64 f] rfl ⟨by simp, by simp [Value.oneCell'], by simp, cell_src f w2⟩ (by simp [maxLen]; omega) (by omega) (by simp) ?_
       intro v3 w3 hown3 hc3 hv3
       obtain ⟨A3, k3, rfl, _, _⟩ := own_form hown3
       have hst3 := hc3.blk (hst2.alloc _) (fun hm => hgp p hm rfl)
       have e3 := hst3.cell 3
       have g3 := hst3.frozen 3
       simp only [qA, qS, qZ] at e3))
  go_ret
  have hc23 : Chg v.ownBlock.toList w2 w3 := ((Chg.refl _ _).alloc _).trans hc3 (by simp)
  have hm3 := hm2.chg hc23 (fun hm => hgm m hm rfl)
  have hv3m : ∀ g ∈ (Value.slice A3 (back.length + 1) k3).ownBlock.toList, g ∈ v.ownBlock.toList ∨ w.heap.size ≤ g ∧ w2.heap.size ≤ g := by
    intro g hg
    rcases hv3 with e | e
    · left; rw [← e]; exact hg
    · right; rw [e] at hg; simp at hg hsz2; omega
  have hn3 : ∀ g ∈ (Value.slice A3 (back.length + 1) k3).ownBlock.toList, g ≠ p ∧ g ≠ m := by
    intro g hg
    have hp2 := hst2.lt; have hm2' := hm2.lt
    rcases hv3m g hg with h | h
    · exact ⟨hgp g h, hgm g h⟩
    · omega
  have hown : OwnI w3 3 .i64 (.slice A3 (back.length + 1) k3) (back ++ [f]) := by
    unfold OwnI
    rw [vals_app, vals_one, List.length_append]
    exact hown3
  have ht' := ht
  simp only [takenB, Bool.and_eq_true, decide_eq_true_eq, Bool.not_eq_true', List.contains_eq_mem, decide_eq_false_iff_not] at ht'
  have hcl : Chg [p] w3 (w3.setCell ⟨p, 3, none⟩ (.slice A3 (back.length + 1) k3)) := (Chg.refl _ _).setCell (by simp) _
  refine ⟨rfl, ?_, .slice A3 (back.length + 1) k3, ⟨?_, hown.chg hcl (by simpa using fun g hg => (hn3 g hg).1), ?_, by simp; omega, h2, h3, ?_, ?_⟩, fun g hg => (hv3m g hg).imp id And.left⟩
  · exact (((hc01.weak (T := p :: m :: v.ownBlock.toList) (by simp)).trans hc2 (by intro k _ hk; simp at hk; subst hk; simp)).trans hc23 (by intro k _ hk; simp only [List.mem_cons]; exact .inr (.inr hk))).trans hcl (by intro k _ hk; simp at hk; subst hk; simp)
  · have := hst3.set_ 3 (.slice A3 (back.length + 1) k3)
    exact this
  · have e : x - a - (back ++ [f]).length = x - a - back.length - 1 := by simp; omega
    rw [e]
    refine (hm3.chg hcl (by simpa using hmp)).congr fun y => ?_
    rw [Bool.eq_iff_iff]
    by_cases hy : y = f
    · subst hy; simp [delS, takenB]
    · simp [delS, takenB, hy]
  · intro y hy
    rw [List.mem_append] at hy
    rcases hy with hy | hy
    · exact h.mem y hy
    · simp at hy; subst hy; exact ht'.1
  · rw [List.nodup_append]
    exact ⟨h.nd, by simp, fun y hy z hz => by simp at hz; subst hz; exact fun e => ht'.2 (e ▸ hy)⟩
def giveB (a n : Nat) (L : List Int) (f : Int) : Bool := decide ((a : Int) ≤ f ∧ f < a + n) && !L.contains f
def giveL (a n : Nat) (L : List Int) (f : Int) : List Int := if giveB a n L f then L ++ [f] else L
theorem FGive_at (S : List Nat) (p a n : Nat) (L : List Int) (f : Int) (w : World) (h : FAt w S p a n L) (hf : -9223372036854775808 ≤ f ∧ f ≤ 9223372036854775807) :
  Calls Tryz.prog 182 #[.pointer (some ⟨p, 0, none⟩), .int .i64 f] w fun e w' => ∃ S', e = .returned (.bool (giveB a n L f)) ∧ Chg S w w' ∧ FAt w' S' p a n (giveL a n L f) ∧ Grew w S S' := by
 obtain ⟨m, x, v, back, h, rfl, rfl⟩ := h
 have hmem := h.mem_iff f
 have h1 := h.ax; have h2 := h.xn
 cases ht : takenB a x back f with
 | true =>
  have hb : giveB a n (dnk x (a + n - x) ++ back) f = true := by
   have hL : (dnk x (a + n - x) ++ back).contains f = false := by
    rw [← Bool.not_eq_true, List.contains_iff_mem, hmem]; simp [ht]
   have ht' := ht
   simp only [takenB, Bool.and_eq_true, decide_eq_true_eq] at ht'
   rw [giveB, hL]; simp; omega
  refine (FGive_yes p m a n x v back f w h hf ht).mono fun _ _ ⟨he, hc, v', h', hv'⟩ => ⟨_, by rw [he, hb], hc, ⟨m, x, v', _, h', rfl, by rw [giveL, hb, if_pos rfl, List.append_assoc]⟩, ?_⟩
  intro i hi
  simp only [List.mem_cons] at hi ⊢
  rcases hi with rfl | rfl | hi
  ·exact .inl (.inl rfl)
  ·exact .inl (.inr (.inl rfl))
  exact (hv' i hi).imp (fun h => .inr (.inr h)) id
 | false =>
  have hb : giveB a n (dnk x (a + n - x) ++ back) f = false := by
   unfold giveB
   by_cases hr : (a : Int) ≤ f ∧ f < a + n
   ·rw [List.contains_iff_mem.2 (hmem.2 ⟨hr, ht⟩)]; simp
   simp only [hr, decide_false, Bool.false_and]
  refine (FGive_no p m a n x v back f w h hf ht).mono fun _ _ ⟨he, hc⟩ => ⟨_, by rw [he, hb], hc.weak (by simp), ⟨m, x, v, back, h.chg hc (by simp) (by simp) (by simp), rfl, by rw [giveL, hb]; rfl⟩, Grew.refl _ _⟩
section
variable {w w' : World} {S T : List Nat} {p a n : Nat} {L : List Int}
end
end Go.Proofs.YtmbgepafpcbakaaGreatDoor
