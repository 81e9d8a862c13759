/-
 StoreRG, StoreRH, StoreRI, StoreRJ, StoreRK, StoreRL, StoreRM in one text.
-/
import Derived.Test.YtgjfidjhbkaobaaGreatGR1K
import Derived.StillTailTactics
import Derived.Deep.CutRange
import Derived.Test.YtgjfidjhbkaobaaGreatLateK
import Derived.Test.YtgjfidjhbkaobaaGreatGS4K
namespace Go.Proofs.YtgjfidjhbkaobaaGreat
open Go.RowKit Go.Maps
theorem setP_set {L : List Pg} {j : Nat} {q : Pg} (hn : (L.map Pg.f).Nodup) (hq : L[j]? = some q) (i : Nat) (x : Slt) : setP L q.f i x = L.set j ⟨q.f, q.k, q.s.set i x⟩ := by
 unfold setP
 have hj := (List.getElem?_eq_some_iff.1 hq).1
 apply List.ext_getElem?
 intro k
 rw [List.getElem?_map, List.getElem?_set]
 by_cases e : j = k
 ·subst e
  rw [hq, if_pos rfl, if_pos hj]; simp
 rw [if_neg e]
 cases h : L[k]? with
 | none => rfl
 | some q' =>
  have hne : q'.f ≠ q.f := fun ef => e ((List.getElem?_inj (by simpa using hj) hn).1 (by rw [List.getElem?_map, List.getElem?_map, hq, h]; simp [ef]))
  simp [hne]
section
variable {n a m : Nat} {s : Sr}
theorem clrN_app (n : Nat) : ∀ (T U : List (Int × Int)) (s : Sr), clrN n s (T ++ U) = clrN n (clrN n s T) U
 | [], _, _ => rfl
 | _ :: T, U, _ => clrN_app n T U _
def own8 (p : Int) : List (Int × Int) := (List.range 8).map fun (i : Nat) => (p, (i : Int))
theorem own8_at (p : Int) {i : Nat} (hi : i < 8) : (own8 p)[i]? = some (p, (i : Int)) := by
 unfold own8; rw [List.getElem?_map, List.getElem?_range hi]; rfl
theorem own8_any (p f : Int) (j : Nat) (hj : j < 8) : ((own8 p).any fun x => decide (f = x.1 ∧ j = x.2.toNat)) = decide (f = p ∧ j < 8) := by
 rw [Bool.eq_iff_iff, List.any_eq_true, decide_eq_true_eq]
 constructor
 ·rintro ⟨x, hx, h⟩
  unfold own8 at hx
  rw [List.mem_map] at hx
  obtain ⟨i, _, rfl⟩ := hx
  rw [decide_eq_true_eq] at h
  exact ⟨h.1, hj⟩
 rintro ⟨rfl, _⟩
 exact ⟨(f, (j : Int)), by unfold own8; exact List.mem_map.2 ⟨j, by simpa using hj, rfl⟩, by simp⟩
theorem drop_clr (h : SrOk n a m s) {p : Int} (hb : dropB s p = true) : clrN n s (toldP 1 p s.L ++ own8 p) = wipeS s (goneC s.L p) := by
 have hT : ∀ x ∈ toldP 1 p s.L, 0 ≤ x.2 ∧ x.2 ≤ 7 := fun x hx => (told_bound h hx).2
 have hk := clr_ok (toldP 1 p s.L) h
 have e := clr_wipe (toldP 1 p s.L) h hT
 have hb' : dropB (clrN n s (toldP 1 p s.L)) p = true := by
  rw [e]
  unfold dropB wipeS
  rw [updS_L, some_upd]; exact hb
 rw [clrN_app, ← drop_wipe h hb, empty_wipe hk hb' 8 (by omega), clr_wipe (own8 p) hk (fun x hx => by
  unfold own8 at hx
  rw [List.mem_map] at hx
  obtain ⟨i, hi, rfl⟩ := hx
  simp at hi
  simp only; omega)]
 exact wipe_congr hk fun q _ i hi => own8_any p q.f i hi
end
theorem ownsRow_setCell {w : World} {base : Nat} {e : TypeId} {size n c g : Nat} {xs : List Value} (h : w.ownsRow base e size (.slice (some ⟨g, 0, none⟩) n c) n xs) (i : Nat) (u : Value) : (w.setCell ⟨g, i, none⟩ u).ownsRow base e size (.slice (some ⟨g, 0, none⟩) n c) n (xs.set i u) := by
 refine ⟨by simpa using h.1, ?_⟩
 rcases h.2 with ⟨h0, _⟩ | ⟨g', c', cur, hv, hg, hb, h1, h2, h3, h4⟩
 ·cases h0
 injection hv with e1 e2 e3
 injection e1 with e1; injection e1 with e1 _ _
 subst e1; subst e3
 refine .inr ⟨g, c, cur.setIfInBounds i u, rfl, hg, heap_setCell_same w g i cur e _ hb, h1, h2, by simpa using h3, ?_⟩
 rw [Array.toList_setIfInBounds, List.take_set, h4]
theorem OwnG.setCell {α : Type} {E : Enc α} {w : World} {t : TypeId} {g n c : Nat} {L L' : List α} (h : OwnG E w t (.slice (some ⟨g, 0, none⟩) n c) L) (i : Nat) (u : Value) (hl : L'.length = L.length) (he : E.all L' = (E.all L).set i u) :
  OwnG E (w.setCell ⟨g, i, none⟩ u) t (.slice (some ⟨g, 0, none⟩) n c) L' := by
 have hn : L.length = n := h.cap.2.2
 unfold OwnG at h ⊢
 rw [hl, he]
 rw [hn] at h ⊢
 exact ownsRow_setCell h i u
theorem Enc.all_set1 {α : Type} {E : Enc α} {L : List α} {j i : Nat} {x y : α} {u : Value} (hx : L[j]? = some x) (hi : i < E.k) (hy : E.cl y = (E.cl x).set i u) : E.all (L.set j y) = (E.all L).set (j * E.k + i) u := by
 have hj := (List.getElem?_eq_some_iff.1 hx).1
 have hp := E.pos
 apply List.ext_getElem?
 intro k
 have hd : k = k / E.k * E.k + k % E.k := by have := Nat.div_add_mod k E.k; rw [Nat.mul_comm] at this; omega
 have hm : k % E.k < E.k := Nat.mod_lt _ hp
 have hlen : j * E.k + i < (E.all L).length := by
  rw [E.all_len]
  have := Nat.mul_le_mul_right E.k hj
  rw [Nat.succ_mul] at this; omega
 rw [List.getElem?_set]
 by_cases hk : j * E.k + i = k
 ·rw [if_pos hk, if_pos hlen, ← hk, E.all_at _ _ _ hi, List.getElem?_set, if_pos rfl, if_pos hj, Option.bind_some, hy, List.getElem?_set, if_pos rfl, if_pos (by rw [E.len]; exact hi)]
 rw [if_neg hk]
 conv => lhs; rw [hd, E.all_at _ _ _ hm]
 conv => rhs; rw [hd, E.all_at _ _ _ hm]
 rw [List.getElem?_set]
 by_cases hjk : j = k / E.k
 ·rw [if_pos hjk, if_pos hj, ← hjk, hx, Option.bind_some, Option.bind_some, hy, List.getElem?_set, if_neg (fun e => hk (by rw [hjk, e]; exact hd.symm))]
 rw [if_neg hjk]
theorem sltE_set5 {s : List Slt} {i : Nat} (hi : i < s.length) (x : Slt) : sltE.all (s.set i x) = (((((sltE.all s).set (i * 5) (.int .i64 x.kind)).set (i * 5 + 1) (.int .i64 x.to_)).set (i * 5 + 2) (.bool x.r.w)).set (i * 5 + 3) (.bool x.r.u)).set (i * 5 + 4) (.bool x.r.x) := by
 have hs : ∀ (y : Slt), (s.set i y)[i]? = some y := fun y => by rw [List.getElem?_set, if_pos rfl, if_pos hi]
 obtain ⟨x0, hx0⟩ : ∃ x0, s[i]? = some x0 := ⟨_, List.getElem?_eq_getElem hi⟩
 obtain ⟨k0, t0, ⟨w0, u0, e0⟩⟩ := x0
 obtain ⟨k, t, ⟨w, u, e⟩⟩ := x
 have h1 := Enc.all_set1 (E := sltE) (i := 0) (y := ⟨k, t0, ⟨w0, u0, e0⟩⟩) (u := .int .i64 k) hx0 (by decide) rfl
 have h2 := Enc.all_set1 (E := sltE) (i := 1) (y := ⟨k, t, ⟨w0, u0, e0⟩⟩) (u := .int .i64 t) (hs ⟨k, t0, ⟨w0, u0, e0⟩⟩) (by decide) rfl
 have h3 := Enc.all_set1 (E := sltE) (i := 2) (y := ⟨k, t, ⟨w, u0, e0⟩⟩) (u := .bool w) (hs ⟨k, t, ⟨w0, u0, e0⟩⟩) (by decide) rfl
 have h4 := Enc.all_set1 (E := sltE) (i := 3) (y := ⟨k, t, ⟨w, u, e0⟩⟩) (u := .bool u) (hs ⟨k, t, ⟨w, u0, e0⟩⟩) (by decide) rfl
 have h5 := Enc.all_set1 (E := sltE) (i := 4) (y := ⟨k, t, ⟨w, u, e⟩⟩) (u := .bool e) (hs ⟨k, t, ⟨w, u, e0⟩⟩) (by decide) rfl
 simp only [List.set_set, show sltE.k = 5 from rfl, Nat.add_zero] at h1 h2 h3 h4 h5
 rw [h5, h4, h3, h2, h1]
theorem OwnS.set5 {w : World} {t : TypeId} {g n c : Nat} {s : List Slt} (h : OwnG sltE w t (.slice (some ⟨g, 0, none⟩) n c) s) {i : Nat} (hi : i < s.length) (x : Slt) : OwnG sltE (set5 w g (i * 5) x) t (.slice (some ⟨g, 0, none⟩) n c) (s.set i x) := by
 have hn : s.length = n := h.cap.2.2
 unfold OwnG at h ⊢
 rw [List.length_set, hn, sltE_set5 hi x]
 rw [hn] at h
 unfold Go.Proofs.YtgjfidjhbkaobaaGreat.set5
 exact ownsRow_setCell (ownsRow_setCell (ownsRow_setCell (ownsRow_setCell (ownsRow_setCell h _ _) _ _) _ _) _ _) _ _
theorem own_nb {α : Type} {E : Enc α} {w : World} {t t' : TypeId} {v : Value} {L : List α} {b : Nat} {cs : Array Value} (h : OwnG E w t v L) (hb : Blk w b t' cs) (hne : (t == t') = false) : ∀ g ∈ v.ownBlock.toList, g ∉ [b] := by
 intro g hg hm
 rw [List.mem_singleton] at hm; subst hm
 obtain ⟨cs', h'⟩ := own_cells h g (by simpa using hg)
 exact (h'.type_ne hb hne) rfl
theorem RAt.nb {w : World} {S : List Nat} {p a n : Nat} {L : List Int} {b : Nat} {t : TypeId} {cs : Array Value} (h : RAt w S p a n L) (hb : Blk w b t cs) (h1 : (173 == t) = false) (h2 : (3 == t) = false) : ∀ i ∈ S, i ∉ [b] := by
 obtain ⟨v, hp, ho, rfl⟩ := h
 intro i hi hm
 rw [List.mem_singleton] at hm; subst hm
 simp only [List.mem_cons] at hi
 rcases hi with rfl | hi
 ·exact (hp.type_ne hb h1) rfl
 obtain ⟨cs', h'⟩ := ho.blk hi
 exact (h'.type_ne hb h2) rfl
section
variable {w w' : World} {q rp rb fp n a m : Nat} {s : Sr} {LA : Option Addr} {lc : Nat} {R : List (Option Addr × Nat)} {FS : List Nat}
theorem RStX.words (h : RStX w q rp rb fp n a m s LA lc R FS) (hc : Chg [rb] w w') {W : List Int} (hm : RMemAt w' rp rb n W) : RStX w' q rp rb fp n a m ⟨s.L, s.fr, W⟩ LA lc R FS :=
 ⟨hc.blk h.st (by have := h.st.type_ne h.hm.ws (by decide); simpa using this), hm, h.hf.chg hc (h.hf.nb h.hm.ws (by decide) (by decide)), h.hl.chg hc (own_nb h.hl h.hm.ws (by decide)), h.len, fun j q r hq hr => (h.hs j q r hq hr).chg hc (own_nb (h.hs j q r hq hr) h.hm.ws (by decide))⟩
theorem RStX.frees (h : RStX w q rp rb fp n a m s LA lc R FS) {FS' : List Nat} (hc : Chg FS w w') {fr : List Int} (hm : RAt w' FS' fp a m fr) : RStX w' q rp rb fp n a m ⟨s.L, fr, s.W⟩ LA lc R FS' := by
 have hn : ∀ (b : Nat) (t : TypeId) (cs : Array Value), Blk w b t cs → (173 == t) = false → (3 == t) = false → b ∉ FS := fun b t cs hb h1 h2 hm => h.hf.nb hb h1 h2 b hm (by simp)
 have ho : ∀ {α : Type} {E : Enc α} {t : TypeId} {v : Value} {L : List α}, OwnG E w t v L → (173 == t) = false → (3 == t) = false → ∀ g ∈ v.ownBlock.toList, g ∉ FS := fun hh h1 h2 g hg => by
  obtain ⟨cs, hb⟩ := own_cells hh g (by simpa using hg)
  exact hn g _ cs hb h1 h2
 exact ⟨hc.blk h.st (hn _ _ _ h.st (by decide) (by decide)), h.hm.chg hc (hn _ _ _ h.hm.st (by decide) (by decide)) (hn _ _ _ h.hm.ws (by decide) (by decide)), hm, h.hl.chg hc (ho h.hl (by decide) (by decide)), h.len, fun j q r hq hr => (h.hs j q r hq hr).chg hc (ho (h.hs j q r hq hr) (by decide) (by decide))⟩
theorem RStX.page0 (h : RStX w q rp rb fp n a m s LA lc R FS) {j : Nat} {p : Pg} (hq : s.L[j]? = some p) : ∃ (b : Nat) (r : Option Addr × Nat) (cs : Array Value), LA = some ⟨b, 0, none⟩ ∧ R[j]? = some r ∧ Blk w b 115 cs ∧
  w.cell? ⟨b, j * 5, none⟩ = some (.int .i64 p.f) ∧ w.cell? ⟨b, j * 5 + 1, none⟩ = some (.int .i64 p.k.g) ∧ w.cell? ⟨b, j * 5 + 2, none⟩ = some (.int .i64 p.k.lev) ∧ w.cell? ⟨b, j * 5 + 3, none⟩ = some (.int .i64 p.k.role) ∧ w.cell? ⟨b, j * 5 + 4, none⟩ = some (.slice r.1 8 r.2) := by
 have hj := (List.getElem?_eq_some_iff.1 hq).1
 obtain ⟨b, off, p', r, e, hq', hr, d0, d1, d2, d3, d4⟩ := h.page hj
 rw [hq] at hq'; cases hq'
 obtain ⟨A, c, e1, _, hA⟩ := h.hl.form
 injection e1 with e1 _ _
 rw [e] at e1
 obtain ⟨g, e2, _⟩ := hA _ e1.symm
 cases e2
 obtain ⟨cs, hb⟩ := own_cells h.hl b (by rw [e]; simp [Value.ownBlock])
 simp only [Nat.zero_add] at d0 d1 d2 d3 d4
 exact ⟨b, r, cs, e, hr, hb, d0, d1, d2, d3, d4⟩
theorem RStX.put {b j : Nat} {p : Pg} {r : Option Addr × Nat} {S : List Slt} (h : RStX w q rp rb fp n a m s (some ⟨b, 0, none⟩) lc R FS) (hq : s.L[j]? = some p) (ho : OwnG sltE w 72 (.slice r.1 8 r.2) S) :
  RStX (w.setCell ⟨b, j * 5 + 4, none⟩ (.slice r.1 8 r.2)) q rp rb fp n a m ⟨s.L.set j ⟨p.f, p.k, S⟩, s.fr, s.W⟩ (some ⟨b, 0, none⟩) lc (R.set j r) FS := by
 obtain ⟨b', r0, cs, e, hr0, hb, _⟩ := h.page0 hq
 cases e
 have hc : Chg [b] w (w.setCell ⟨b, j * 5 + 4, none⟩ (.slice r.1 8 r.2)) := (Chg.refl [b] w).setCell (by simp) _
 have hlen := h.len
 have hj := (List.getElem?_eq_some_iff.1 hq).1
 have hls : (s.L.set j ⟨p.f, p.k, S⟩).length = s.L.length := List.length_set
 refine ⟨by show Blk _ q _ #[_, _, .slice _ (s.L.set j _).length lc]; rw [hls]; exact hc.blk h.st (by have := h.st.type_ne hb (by decide); simpa using this), h.hm.chg hc (by have := h.hm.st.type_ne hb (by decide); simpa using this) (by have := h.hm.ws.type_ne hb (by decide); simpa using this), h.hf.chg hc (h.hf.nb hb (by decide) (by decide)), ?_, by simp [hlen], ?_⟩
 ·have hx := rowsR_at hq hr0
  have hrow : rowsR (s.L.set j ⟨p.f, p.k, S⟩) (R.set j r) = (rowsR s.L R).set j (p.f, p.k, r) := by
   unfold rowsR
   apply List.ext_getElem?
   intro k
   rw [List.getElem?_zipWith, List.getElem?_set, List.getElem?_set, List.getElem?_set, List.getElem?_zipWith]
   by_cases e : j = k
   ·subst e
    rw [if_pos rfl, if_pos rfl, if_pos rfl, if_pos hj, if_pos (by omega), if_pos (by rw [List.length_zipWith]; omega)]
   rw [if_neg e, if_neg e, if_neg e]
  rw [hrow]
  have := h.hl.setCell (L' := (rowsR s.L R).set j (p.f, p.k, r)) (j * 5 + 4) (.slice r.1 8 r.2) (by simp) (Enc.all_set1 (E := rpE) (i := 4) (y := (p.f, p.k, r)) hx (by decide) rfl)
  show OwnG rpE _ _ (.slice _ (s.L.set j _).length lc) _
  rw [hls]; exact this
 intro k q' r' hq' hr'
 rw [List.getElem?_set] at hq' hr'
 by_cases e : j = k
 ·subst e
  rw [if_pos rfl, if_pos hj] at hq'
  rw [if_pos rfl, if_pos (by omega)] at hr'
  cases hq'; cases hr'
  exact ho.chg hc (own_nb ho hb (by decide))
 rw [if_neg e] at hq' hr'
 exact (h.hs k q' r' hq' hr').chg hc (own_nb (h.hs k q' r' hq' hr') hb (by decide))
end
theorem Slot14_info : ((Tryz.prog.info? 72).map (fun i => (i.zero, i.size, i.bytes))) = some (some (.agg #[.int .i64 0, .int .i64 0, .bool false, .bool false, .bool false]), 5, 24) := by kernel_rfl
def lB (A : Option Addr) : List Nat := (A.map Addr.block).toList
theorem own_pos {α : Type} {E : Enc α} {w : World} {t : TypeId} {v : Value} {L : List α} (h : OwnG E w t v L) (h0 : 0 < L.length) : ∃ g c, v = .slice (some ⟨g, 0, none⟩) L.length c ∧ g < w.heap.size := by
 obtain ⟨A, c, e, hn, ha⟩ := h.form
 cases A with
 | none => have := (hn rfl).1; omega
 | some a => obtain ⟨g, rfl, hg⟩ := ha a rfl; exact ⟨g, c, e, hg⟩
section
variable {q rp rb fp n a m : Nat} {s : Sr} {LA : Option Addr} {lc : Nat} {R : List (Option Addr × Nat)} {FS : List Nat}
def SetQ (q rp rb fp n a m : Nat) (s : Sr) (LA : Option Addr) (lc : Nat) (R : List (Option Addr × Nat)) (FS : List Nat) (j : Nat) (pf : Int) (i : Nat) (x : Slt) (f : Int) (w : World) (e : Ending) (w' : World) : Prop :=
 e = .returned (.tuple #[]) ∧ ∃ r', RStX w' q rp rb fp n a m (setS n s pf i x f) LA lc (R.set j r') FS ∧ Chg (rb :: lB LA) w w' ∧ ∃ g, r'.1 = some ⟨g, 0, none⟩ ∧ w.heap.size ≤ g
set_option maxRecDepth 100000 in
set_option maxHeartbeats 4000000 in
theorem Rset_yes (j : Nat) (pg : Pg) (i : Nat) (x : Slt) (f : Int) (w : World) (h : RStX w q rp rb fp n a m s LA lc R FS) (hnd : (s.L.map Pg.f).Nodup) (hq : s.L[j]? = some pg) (h8 : pg.s.length = 8) (hi : i < 8) (hk : x.kind ≠ 0 ∧ 0 ≤ f ∧ f < 1048576) :
  Calls Tryz.prog 100 #[.pointer (some ⟨q, 0, none⟩), .int .i64 j, .int .i64 i, .agg x.cl.toArray, .int .i64 f] w (SetQ q rp rb fp n a m s LA lc R FS j pg.f i x f w) := by
 have hj := (List.getElem?_eq_some_iff.1 hq).1
 have hjl : (j : Int) < (s.L.length : Int) := by omega
 have hi8 : (i : Int) < 8 := by omega
 have hsetp := setP_set hnd hq i x
 have hwd : wordS x f = (putV (entS x f) : Nat) := by unfold wordS; rw [if_neg hk.1]
 simp only [entS] at hwd
 have hP := fun w' => RPut_at (entS x f) w'
 obtain ⟨kd, tt, ⟨rw_, ru, rx⟩⟩ := x
 simp only at hk hwd
 simp only [entS, Ent.cs] at hP
 have hkb : (kd != 0) = true := by simpa using hk.1
 clear hk
 simp only [Slt.cl]
 have y1 := (Chg.refl [] w).alloc (.cells #[.int .i64 kd, .int .i64 tt, .bool rw_, .bool ru, .bool rx] 72)
 have bx := Blk.new w 72 #[.int .i64 kd, .int .i64 tt, .bool rw_, .bool ru, .bool rx]
 have hxl : w.heap.size < (w.alloc (.cells #[.int .i64 kd, .int .i64 tt, .bool rw_, .bool ru, .bool rx] 72)).heap.size := by simp
 have x0 := bx.cell 0; have x1 := bx.cell 1; have x2 := bx.cell 2; have x3 := bx.cell 3; have x4 := bx.cell 4
 simp only [qA, qZ, qS] at x0 x1 x2 x3 x4
 generalize hw1 : w.alloc (.cells #[.int .i64 kd, .int .i64 tt, .bool rw_, .bool ru, .bool rx] 72) = w1 at *
 replace hw1 := Lib.hid hw1
 obtain ⟨xb, hxb⟩ : ∃ xb, w.heap.size = xb := ⟨_, rfl⟩
 rw [hxb] at bx hxl x0 x1 x2 x3 x4
 generalize hpv : ((putV _ : Nat) : Int) = pv at hP hwd
 replace hpv := Lib.hid hpv
 go_enter Tryz.func100, Tryz.ntmps100
 go_upto_region 3 with fail
 (try rw [hw1.out])
 go_wp2_with fail
 refine (hP _).mono ?_; rintro e w2 ⟨rfl, y2⟩
 clear hP
 have bx2 := bx.chg_ y2 (by simp)
 have hxl2 := Nat.lt_of_lt_of_le hxl y2.size
 replace y2 := y1.trans y2 (by simp)
 go_upto_region 5 with fail
 clear x0 x1 x2 x3 x4 bx hxl y1 hw1
 have y3 := y2.alloc (.cells #[] 72)
 have hr3 := h.new y3
 have q3 := hr3.st.cell 2
 simp only [qA, qZ, qS] at q3
 obtain ⟨b, ⟨rA, rc⟩, cs, rfl, hrr, hbk, _, _, _, _, d4⟩ := hr3.page0 hq
 have hown3 : OwnG sltE (w2.alloc (.cells #[] 72)) 72 (.slice (some ⟨w2.heap.size, 0, none⟩) 0 0) [] := OwnG.lit (E := sltE) (L := []) (Blk.new w2 72 #[]) (by simp)
 have hsrc3 := (hr3.hs j pg (rA, rc) hq hrr).src
 simp only at d4 hsrc3
 have bx3 := bx2.alloc (.cells #[] 72)
 go_upto_region 6 with (at_builtin; (refine wpList_append_G (E := sltE) rfl _ _ 113 rfl 72 (.agg #[.int .i64 0, .int .i64 0, .bool false, .bool false, .bool false]) 24 Tryz.underlying113 Slot14_info rfl (.slice (some ⟨w2.heap.size, 0, none⟩) 0 0) [] rfl hown3 rA 8 rc pg.s rfl hsrc3 h8 (by simp) ?_); (intro v5 w5 ho5 hc5 hb5); (rw [List.nil_append] at ho5); (obtain ⟨g5, c5, rfl, hg5⟩ := own_pos ho5 (by omega)); (rw [h8] at ho5 hb5 ⊢))
 have hge5 : w.heap.size ≤ g5 := by
  have h2 := y2.size
  rcases hb5 with e | e
  ·simp only [Value.ownBlock, Option.some.injEq] at e; omega
  have h3 := y3.size; simp only [Value.ownBlock, Option.some.injEq] at e; omega
 have y5 : Chg [] w w5 := y3.trans hc5 (fun k_ hk_ hm => by have h2 := y2.size; simp [Value.ownBlock] at hm; omega)
 have bx5 := bx3.chg_ hc5 (by simp [Value.ownBlock]; omega)
 have hxg : xb ≠ g5 := by
  rcases hb5 with e | e
  ·simp only [Value.ownBlock, Option.some.injEq] at e; omega
  have h3 := bx3.lt; simp only [Value.ownBlock, Option.some.injEq] at e; omega
 clear hb5 hc5 hsrc3 hown3 hr3 q3 hbk d4 bx3 y3 y2 bx2 hrr
 obtain ⟨b8, o8, x8, eA, _, hx8, hat8⟩ := ho5.slg.get (k := i) (by omega)
 cases eA
 obtain ⟨t0, t1, t2, t3, t4⟩ := sltAt5 hat8
 simp only [show sltE.k = 5 from rfl, Nat.zero_add] at t0 t1 t2 t3 t4
 obtain ⟨cs5, hg5b⟩ := own_cells ho5 g5 (by simp [Value.ownBlock])
 have f0 := hg5b.frozen (i * 5); have f1 := hg5b.frozen (i * 5 + 1); have f2 := hg5b.frozen (i * 5 + 2); have f3 := hg5b.frozen (i * 5 + 3); have f4 := hg5b.frozen (i * 5 + 4)
 have x0 := bx5.cell 0; have x1 := bx5.cell 1; have x2 := bx5.cell 2; have x3 := bx5.cell 3; have x4 := bx5.cell 4
 simp only [qA, qZ, qS] at x0 x1 x2 x3 x4
 have ho6 := OwnS.set5 ho5 (i := i) (by omega) (⟨kd, tt, ⟨rw_, ru, rx⟩⟩ : Slt)
 have k6 := chg_set5 w5 g5 (i * 5) (⟨kd, tt, ⟨rw_, ru, rx⟩⟩ : Slt)
 have y6 := y5.trans k6 (fun k_ hk_ hm => by simp only [List.mem_singleton] at hm; omega)
 unfold set5 at ho6 y6
 simp only at ho6 y6
 go_upto_region 7 with fail
 clear t0 t1 t2 t3 t4 f0 f1 f2 f3 f4 x0 x1 x2 x3 x4 bx5 hg5b hat8 hx8 hxg k6 ho5 y5
 generalize (((((w5.setCell ⟨g5, i * 5, none⟩ (.int .i64 kd)).setCell ⟨g5, i * 5 + 1, none⟩ (.int .i64 tt)).setCell ⟨g5, i * 5 + 2, none⟩ (.bool rw_)).setCell ⟨g5, i * 5 + 3, none⟩ (.bool ru)).setCell ⟨g5, i * 5 + 4, none⟩ (.bool rx)) = w6 at *
 have hr6 := h.new y6
 have q6 := hr6.st.cell 2
 simp only [qA, qZ, qS] at q6
 obtain ⟨b', ⟨rA', rc'⟩, cs', eb, hrr, hbk, d0, _, _, _, d4⟩ := hr6.page0 hq
 cases eb
 have f4 := hbk.frozen (j * 5 + 4)
 have hput := hr6.put (r := (some ⟨g5, 0, none⟩, c5)) hq ho6
 rw [← hsetp] at hput
 have y7 : Chg [b] w (w6.setCell ⟨b, j * 5 + 4, none⟩ (.slice (some ⟨g5, 0, none⟩) 8 c5)) := (y6.weak (by simp)).trans ((Chg.refl [b] w6).setCell (p := ⟨b, j * 5 + 4, none⟩) (by simp) _) (fun _ _ h => h)
 simp only at hput
 go_upto_region 8 with fail
 clear q6 d0 d4 f4 hbk y6 hr6 ho6
 generalize w6.setCell ⟨b, j * 5 + 4, none⟩ (.slice (some ⟨g5, 0, none⟩) 8 c5) = w7 at *
 have hLj : (setP s.L pg.f i (⟨kd, tt, ⟨rw_, ru, rx⟩⟩ : Slt))[j]? = some ⟨pg.f, pg.k, pg.s.set i (⟨kd, tt, ⟨rw_, ru, rx⟩⟩ : Slt)⟩ := by rw [hsetp, List.getElem?_set, if_pos rfl, if_pos hj]
 have hll : (setP s.L pg.f i (⟨kd, tt, ⟨rw_, ru, rx⟩⟩ : Slt)).length = s.L.length := (setP_map _ _ _).2.2
 have hset := RSet_at rp rb n s.W pg.f i pv w7.drew (hput.new (Chg.refl [] w7).drew).hm
 have q7 := hput.st
 simp only [hll] at q7
 have q0 := q7.cell 0; have q2 := q7.cell 2
 simp only [qA, qZ, qS] at q0 q2
 obtain ⟨b', r', cs', eb, _, _, d0, _⟩ := hput.page0 hLj
 cases eb
 simp only at d0
 have hfin : ∀ w', Chg [rb] w7.drew w' → RMemAt w' rp rb n (setW n s.W pg.f i pv) → SetQ q rp rb fp n a m s (some ⟨b, 0, none⟩) lc R FS j pg.f i (⟨kd, tt, ⟨rw_, ru, rx⟩⟩ : Slt) f w (.returned (.tuple #[])) w' := by
  intro w' y8 hm8
  have h8' := (hput.new (Chg.refl [] w7).drew).words y8 hm8
  refine ⟨rfl, (some ⟨g5, 0, none⟩, c5), ?_, ?_, g5, rfl, hge5⟩
  ·have e : setS n s pg.f i (⟨kd, tt, ⟨rw_, ru, rx⟩⟩ : Slt) f = ⟨setP s.L pg.f i (⟨kd, tt, ⟨rw_, ru, rx⟩⟩ : Slt), s.fr, setW n s.W pg.f i pv⟩ := by unfold setS; rw [hwd]; simp
   rw [e]; exact h8'
  exact ((y7.drew).weak (T := rb :: lB (some ⟨b, 0, none⟩)) (fun k_ _ hk_ => by simp only [List.mem_singleton] at hk_; subst hk_; simp [lB])).trans y8 (fun k_ _ hk_ => by simp only [List.mem_singleton] at hk_; subst hk_; simp)
 clear hput h hq y7 hLj hll q7 hsetp hwd
 refine wp_region_still_tail 14 (by kernel_rfl) (by kernel_rfl) ?_
 simp only [List.take_succ_cons, List.take_zero, List.drop_succ_cons, List.drop_zero]
 change wpStill _ _ (World.drew _) _ _ _
 iterate 14 still_step
 refine wpStill_nil ?_
 change wpList _ _ _ _ _ (World.drew w7)
 go_wp2_with fail
 refine hset.mono ?_; rintro e w8 ⟨rfl, y8, hm8⟩
 go_wp2_with fail
 go_end0
 exact hfin w8 y8 hm8
set_option maxRecDepth 100000 in
set_option maxHeartbeats 4000000 in
theorem Rset_no (j : Nat) (pg : Pg) (i : Nat) (x : Slt) (f : Int) (w : World) (h : RStX w q rp rb fp n a m s LA lc R FS) (hnd : (s.L.map Pg.f).Nodup) (hq : s.L[j]? = some pg) (h8 : pg.s.length = 8) (hi : i < 8) (hk : x.kind = 0) :
  Calls Tryz.prog 100 #[.pointer (some ⟨q, 0, none⟩), .int .i64 j, .int .i64 i, .agg x.cl.toArray, .int .i64 f] w (SetQ q rp rb fp n a m s LA lc R FS j pg.f i x f w) := by
 have hj := (List.getElem?_eq_some_iff.1 hq).1
 have hjl : (j : Int) < (s.L.length : Int) := by omega
 have hi8 : (i : Int) < 8 := by omega
 have hsetp := setP_set hnd hq i x
 have hwd : wordS x f = 0 := by unfold wordS; rw [if_pos hk]
 obtain ⟨kd, tt, ⟨rw_, ru, rx⟩⟩ := x
 simp only at hk
 subst hk
 simp only [Slt.cl]
 have y1 := (Chg.refl [] w).alloc (.cells #[.int .i64 0, .int .i64 tt, .bool rw_, .bool ru, .bool rx] 72)
 have bx := Blk.new w 72 #[.int .i64 0, .int .i64 tt, .bool rw_, .bool ru, .bool rx]
 have hxl : w.heap.size < (w.alloc (.cells #[.int .i64 0, .int .i64 tt, .bool rw_, .bool ru, .bool rx] 72)).heap.size := by simp
 have x0 := bx.cell 0; have x1 := bx.cell 1; have x2 := bx.cell 2; have x3 := bx.cell 3; have x4 := bx.cell 4
 simp only [qA, qZ, qS] at x0 x1 x2 x3 x4
 generalize hw1 : w.alloc (.cells #[.int .i64 0, .int .i64 tt, .bool rw_, .bool ru, .bool rx] 72) = w1 at *
 replace hw1 := Lib.hid hw1
 obtain ⟨xb, hxb⟩ : ∃ xb, w.heap.size = xb := ⟨_, rfl⟩
 rw [hxb] at bx hxl x0 x1 x2 x3 x4
 go_enter Tryz.func100, Tryz.ntmps100
 go_upto_region 5 with fail
 (try rw [hw1.out])
 have y2 := y1
 have bx2 := bx
 have hxl2 := hxl
 obtain ⟨w2, hw2⟩ : ∃ w2, w1 = w2 := ⟨_, rfl⟩
 rw [hw2] at y2 bx2 hxl2 ⊢
 clear hw2
 clear x0 x1 x2 x3 x4 bx hxl y1 hw1
 have y3 := y2.alloc (.cells #[] 72)
 have hr3 := h.new y3
 have q3 := hr3.st.cell 2
 simp only [qA, qZ, qS] at q3
 obtain ⟨b, ⟨rA, rc⟩, cs, rfl, hrr, hbk, _, _, _, _, d4⟩ := hr3.page0 hq
 have hown3 : OwnG sltE (w2.alloc (.cells #[] 72)) 72 (.slice (some ⟨w2.heap.size, 0, none⟩) 0 0) [] := OwnG.lit (E := sltE) (L := []) (Blk.new w2 72 #[]) (by simp)
 have hsrc3 := (hr3.hs j pg (rA, rc) hq hrr).src
 simp only at d4 hsrc3
 have bx3 := bx2.alloc (.cells #[] 72)
 go_upto_region 6 with (at_builtin; (refine wpList_append_G (E := sltE) rfl _ _ 113 rfl 72 (.agg #[.int .i64 0, .int .i64 0, .bool false, .bool false, .bool false]) 24 Tryz.underlying113 Slot14_info rfl (.slice (some ⟨w2.heap.size, 0, none⟩) 0 0) [] rfl hown3 rA 8 rc pg.s rfl hsrc3 h8 (by simp) ?_); (intro v5 w5 ho5 hc5 hb5); (rw [List.nil_append] at ho5); (obtain ⟨g5, c5, rfl, hg5⟩ := own_pos ho5 (by omega)); (rw [h8] at ho5 hb5 ⊢))
 have hge5 : w.heap.size ≤ g5 := by
  have h2 := y2.size
  rcases hb5 with e | e
  ·simp only [Value.ownBlock, Option.some.injEq] at e; omega
  have h3 := y3.size; simp only [Value.ownBlock, Option.some.injEq] at e; omega
 have y5 : Chg [] w w5 := y3.trans hc5 (fun k_ hk_ hm => by have h2 := y2.size; simp [Value.ownBlock] at hm; omega)
 have bx5 := bx3.chg_ hc5 (by simp [Value.ownBlock]; omega)
 have hxg : xb ≠ g5 := by
  rcases hb5 with e | e
  ·simp only [Value.ownBlock, Option.some.injEq] at e; omega
  have h3 := bx3.lt; simp only [Value.ownBlock, Option.some.injEq] at e; omega
 clear hb5 hc5 hsrc3 hown3 hr3 q3 hbk d4 bx3 y3 y2 bx2 hrr
 obtain ⟨b8, o8, x8, eA, _, hx8, hat8⟩ := ho5.slg.get (k := i) (by omega)
 cases eA
 obtain ⟨t0, t1, t2, t3, t4⟩ := sltAt5 hat8
 simp only [show sltE.k = 5 from rfl, Nat.zero_add] at t0 t1 t2 t3 t4
 obtain ⟨cs5, hg5b⟩ := own_cells ho5 g5 (by simp [Value.ownBlock])
 have f0 := hg5b.frozen (i * 5); have f1 := hg5b.frozen (i * 5 + 1); have f2 := hg5b.frozen (i * 5 + 2); have f3 := hg5b.frozen (i * 5 + 3); have f4 := hg5b.frozen (i * 5 + 4)
 have x0 := bx5.cell 0; have x1 := bx5.cell 1; have x2 := bx5.cell 2; have x3 := bx5.cell 3; have x4 := bx5.cell 4
 simp only [qA, qZ, qS] at x0 x1 x2 x3 x4
 have ho6 := OwnS.set5 ho5 (i := i) (by omega) (⟨0, tt, ⟨rw_, ru, rx⟩⟩ : Slt)
 have k6 := chg_set5 w5 g5 (i * 5) (⟨0, tt, ⟨rw_, ru, rx⟩⟩ : Slt)
 have y6 := y5.trans k6 (fun k_ hk_ hm => by simp only [List.mem_singleton] at hm; omega)
 unfold set5 at ho6 y6
 simp only at ho6 y6
 go_upto_region 7 with fail
 clear t0 t1 t2 t3 t4 f0 f1 f2 f3 f4 x0 x1 x2 x3 x4 bx5 hg5b hat8 hx8 hxg k6 ho5 y5
 generalize (((((w5.setCell ⟨g5, i * 5, none⟩ (.int .i64 0)).setCell ⟨g5, i * 5 + 1, none⟩ (.int .i64 tt)).setCell ⟨g5, i * 5 + 2, none⟩ (.bool rw_)).setCell ⟨g5, i * 5 + 3, none⟩ (.bool ru)).setCell ⟨g5, i * 5 + 4, none⟩ (.bool rx)) = w6 at *
 have hr6 := h.new y6
 have q6 := hr6.st.cell 2
 simp only [qA, qZ, qS] at q6
 obtain ⟨b', ⟨rA', rc'⟩, cs', eb, hrr, hbk, d0, _, _, _, d4⟩ := hr6.page0 hq
 cases eb
 have f4 := hbk.frozen (j * 5 + 4)
 have hput := hr6.put (r := (some ⟨g5, 0, none⟩, c5)) hq ho6
 rw [← hsetp] at hput
 have y7 : Chg [b] w (w6.setCell ⟨b, j * 5 + 4, none⟩ (.slice (some ⟨g5, 0, none⟩) 8 c5)) := (y6.weak (by simp)).trans ((Chg.refl [b] w6).setCell (p := ⟨b, j * 5 + 4, none⟩) (by simp) _) (fun _ _ h => h)
 simp only at hput
 go_upto_region 8 with fail
 clear q6 d0 d4 f4 hbk y6 hr6 ho6
 generalize w6.setCell ⟨b, j * 5 + 4, none⟩ (.slice (some ⟨g5, 0, none⟩) 8 c5) = w7 at *
 have hLj : (setP s.L pg.f i (⟨0, tt, ⟨rw_, ru, rx⟩⟩ : Slt))[j]? = some ⟨pg.f, pg.k, pg.s.set i (⟨0, tt, ⟨rw_, ru, rx⟩⟩ : Slt)⟩ := by rw [hsetp, List.getElem?_set, if_pos rfl, if_pos hj]
 have hll : (setP s.L pg.f i (⟨0, tt, ⟨rw_, ru, rx⟩⟩ : Slt)).length = s.L.length := (setP_map _ _ _).2.2
 have hset := RSet_at rp rb n s.W pg.f i 0 w7.drew (hput.new (Chg.refl [] w7).drew).hm
 have q7 := hput.st
 simp only [hll] at q7
 have q0 := q7.cell 0; have q2 := q7.cell 2
 simp only [qA, qZ, qS] at q0 q2
 obtain ⟨b', r', cs', eb, _, _, d0, _⟩ := hput.page0 hLj
 cases eb
 simp only at d0
 have hfin : ∀ w', Chg [rb] w7.drew w' → RMemAt w' rp rb n (setW n s.W pg.f i 0) → SetQ q rp rb fp n a m s (some ⟨b, 0, none⟩) lc R FS j pg.f i (⟨0, tt, ⟨rw_, ru, rx⟩⟩ : Slt) f w (.returned (.tuple #[])) w' := by
  intro w' y8 hm8
  have h8' := (hput.new (Chg.refl [] w7).drew).words y8 hm8
  refine ⟨rfl, (some ⟨g5, 0, none⟩, c5), ?_, ?_, g5, rfl, hge5⟩
  ·have e : setS n s pg.f i (⟨0, tt, ⟨rw_, ru, rx⟩⟩ : Slt) f = ⟨setP s.L pg.f i (⟨0, tt, ⟨rw_, ru, rx⟩⟩ : Slt), s.fr, setW n s.W pg.f i 0⟩ := by unfold setS; rw [hwd]; simp
   rw [e]; exact h8'
  exact ((y7.drew).weak (T := rb :: lB (some ⟨b, 0, none⟩)) (fun k_ _ hk_ => by simp only [List.mem_singleton] at hk_; subst hk_; simp [lB])).trans y8 (fun k_ _ hk_ => by simp only [List.mem_singleton] at hk_; subst hk_; simp)
 clear hput h hq y7 hLj hll q7 hsetp hwd
 refine wp_region_still_tail 14 (by kernel_rfl) (by kernel_rfl) ?_
 simp only [List.take_succ_cons, List.take_zero, List.drop_succ_cons, List.drop_zero]
 change wpStill _ _ (World.drew _) _ _ _
 iterate 14 still_step
 refine wpStill_nil ?_
 change wpList _ _ _ _ _ (World.drew w7)
 go_wp2_with fail
 refine hset.mono ?_; rintro e w8 ⟨rfl, y8, hm8⟩
 go_wp2_with fail
 go_end0
 exact hfin w8 y8 hm8
end
def RNew (w : World) (R R' : List (Option Addr × Nat)) : Prop := ∀ r ∈ R', r ∈ R ∨ ∃ g, r.1 = some ⟨g, 0, none⟩ ∧ w.heap.size ≤ g
theorem RNew.refl (w : World) (R : List (Option Addr × Nat)) : RNew w R R := fun _ h => .inl h
theorem RNew.trans {w w' w1 : World} {S : List Nat} {R R' R'' : List (Option Addr × Nat)} (h : RNew w R R') (hc : Chg S w1 w') (h1 : w1.heap.size = w.heap.size) (h' : RNew w' R' R'') : RNew w R R'' := by
 intro r hr
 rcases h' r hr with h2 | ⟨g, e, hg⟩
 ·exact h r h2
 exact .inr ⟨g, e, by have := hc.size; omega⟩
def RCh (q rp rb fp n a m : Nat) (s1 : Sr) (LA : Option Addr) (lc : Nat) (R : List (Option Addr × Nat)) (FS : List Nat) (u : Value) (w : World) (e : Ending) (w' : World) : Prop :=
 e = .returned u ∧ ∃ R', RStX w' q rp rb fp n a m s1 LA lc R' FS ∧ Chg (rb :: lB LA) w w' ∧ RNew w R R'
section
variable {q rp rb fp n a m : Nat} {s : Sr} {LA : Option Addr} {lc : Nat} {R : List (Option Addr × Nat)} {FS : List Nat}
theorem Rset_any (j : Nat) (pg : Pg) (i : Nat) (x : Slt) (f : Int) (w : World) (h : RStX w q rp rb fp n a m s LA lc R FS) (ok : SrOk n a m s) (hq : s.L[j]? = some pg) (hi : i < 8) (hk : x.kind ≠ 0 → 0 ≤ f ∧ f < 1048576) :
  Calls Tryz.prog 100 #[.pointer (some ⟨q, 0, none⟩), .int .i64 j, .int .i64 i, .agg x.cl.toArray, .int .i64 f] w (RCh q rp rb fp n a m (setS n s pg.f i x f) LA lc R FS (.tuple #[]) w) := by
 have h8 := ok.eight pg (List.mem_of_getElem? hq)
 have e : ∀ (e : Ending) (w' : World), SetQ q rp rb fp n a m s LA lc R FS j pg.f i x f w e w' → RCh q rp rb fp n a m (setS n s pg.f i x f) LA lc R FS (.tuple #[]) w e w' := by
  rintro e w' ⟨he, r', hr, y, g, hg, hl⟩
  refine ⟨he, _, hr, y, fun r hm => ?_⟩
  rcases List.mem_or_eq_of_mem_set hm with h | rfl
  ·exact .inl h
  exact .inr ⟨g, hg, hl⟩
 by_cases h0 : x.kind = 0
 ·exact (Rset_no j pg i x f w h ok.ndL hq h8 hi h0).mono e
 exact (Rset_yes j pg i x f w h ok.ndL hq h8 hi ⟨h0, hk h0⟩).mono e
theorem RCh.same {w w' : World} (h : RStX w q rp rb fp n a m s LA lc R FS) (y : Chg [] w w') (u : Value) : RCh q rp rb fp n a m s LA lc R FS u w (.returned u) w' :=
 ⟨rfl, R, h.new y, y.weak (by simp), RNew.refl _ _⟩
theorem RCh.from_ {w w1 w' : World} {s1 : Sr} {u : Value} {e : Ending} (y : Chg [] w w1) (h : RCh q rp rb fp n a m s1 LA lc R FS u w1 e w') (v : Value) : RCh q rp rb fp n a m s1 LA lc R FS v w (.returned v) w' := by
 obtain ⟨_, R', h1, h2, h3⟩ := h
 refine ⟨rfl, R', h1, (y.weak (by simp)).trans h2 (fun _ _ h => h), fun r hr => ?_⟩
 rcases h3 r hr with h4 | ⟨g, e, hg⟩
 ·exact .inl h4
 exact .inr ⟨g, e, by have := y.size; omega⟩
set_option maxRecDepth 100000 in
set_option maxHeartbeats 4000000 in
theorem RClear_any (p i : Int) (w : World) (h : RStX w q rp rb fp n a m s LA lc R FS) (ok : SrOk n a m s) :
  Calls Tryz.prog 101 #[.pointer (some ⟨q, 0, none⟩), .int .i64 p, .int .i64 i] w (RCh q rp rb fp n a m (clearS n s p i) LA lc R FS (.bool (clearB s p i)) w) := by
 have hS := RSlot_any p i w h ok.le256 ok.eight
 cases hsp : slotP s.L p i with
 | none =>
  have e1 : clearB s p i = false := by unfold clearB; rw [hsp]
  have e2 : clearS n s p i = s := by unfold clearS; rw [e1]; rfl
  have e3 : slotV s.L p i = Slt.no := by unfold slotV; rw [hsp]; rfl
  rw [e1, e2]
  rw [e3, hsp] at hS
  simp only [Slt.no, Slt.cl, Option.isSome_none] at hS
  clear e1 e2 e3 hsp
  go_enter Tryz.func101, Tryz.ntmps101
  go_wp2_with fail
  refine hS.mono ?_; rintro e w2 ⟨rfl, y2⟩
  clear hS
  have b3 := Blk.new w2 72 #[.int .i64 0, .int .i64 0, .bool false, .bool false, .bool false]
  go_wp2_with fail
  go_ret
  exact RCh.same h (y2.alloc _) _
 | some x =>
  have e3 : slotV s.L p i = x := by unfold slotV; rw [hsp]; rfl
  rw [e3, hsp] at hS
  clear e3
  obtain ⟨pg, hpg, hi0, hi7, hx⟩ := slotP_has hsp
  obtain ⟨I, rfl⟩ := Int.eq_ofNat_of_zero_le hi0
  obtain ⟨kd, tt, ⟨rw_, ru, rx⟩⟩ := x
  simp only [Slt.cl, Option.isSome_some] at hS
  by_cases hk : kd = 0
  ·have e1 : clearB s p I = false := by unfold clearB; rw [hsp]; simp [hk]
   have e2 : clearS n s p I = s := by unfold clearS; rw [e1]; rfl
   subst hk
   rw [e1, e2]
   clear e1 e2 hsp hx hpg hi0 hi7
   go_enter Tryz.func101, Tryz.ntmps101
   go_wp2_with fail
   refine hS.mono ?_; rintro e w2 ⟨rfl, y2⟩
   clear hS
   have b3 := Blk.new w2 72 #[.int .i64 0, .int .i64 tt, .bool rw_, .bool ru, .bool rx]
   have x0 := b3.cell 0
   simp only [qA, qZ] at x0
   go_wp2_with fail
   go_ret
   exact RCh.same h (y2.alloc _) _
  have e1 : clearB s p I = true := by unfold clearB; rw [hsp]; simp [hk]
  have e2 : clearS n s p I = setS n s p I Slt.no 0 := by unfold clearS; rw [e1, if_pos rfl]
  rw [e1, e2]
  have hkb : (kd == 0) = false := by simpa using hk
  obtain ⟨j, hqj, hjl, eat⟩ : ∃ j, s.L[j]? = some pg ∧ j < s.L.length ∧ atI s.L p = (j : Int) := by
   rcases atI_pg s.L p with ⟨e, _⟩ | ⟨j, q', e1, e2, e3, e4⟩
   ·rw [hpg] at e; cases e
   rw [hpg] at e3; cases e3; exact ⟨j, e1, e2, e4⟩
  have hpf := (pgAt_mem hpg).2
  have hat := fun w' (y : Chg [] w w') => Rat_any p w' (h.new y) ok.le256
  rw [eat] at hat
  have hset := fun w' (y : Chg [] w w') => Rset_any j pg I Slt.no 0 w' (h.new y) ok hqj (by omega) (fun e => absurd rfl e)
  rw [hpf] at hset
  simp only [Slt.no, Slt.cl] at hset
  clear e1 e2 hsp hx hk eat
  go_enter Tryz.func101, Tryz.ntmps101
  go_wp2_with fail
  refine hS.mono ?_; rintro e w2 ⟨rfl, y2⟩
  clear hS
  have b3 := Blk.new w2 72 #[.int .i64 kd, .int .i64 tt, .bool rw_, .bool ru, .bool rx]
  have x0 := b3.cell 0
  simp only [qA, qZ] at x0
  go_wp2_with fail
  have y3 := y2.alloc (.cells #[.int .i64 kd, .int .i64 tt, .bool rw_, .bool ru, .bool rx] 72)
  refine (hat _ y3).mono ?_; rintro e w4 ⟨rfl, y4⟩
  replace y4 := y3.trans y4 (by simp)
  go_wp2_with fail
  refine (hset _ y4).mono ?_; intro e w5 hr
  obtain ⟨rfl, _⟩ := id hr
  go_wp2_with fail
  go_ret
  exact hr.from_ y4 _
theorem at_pg (ok : SrOk n a m s) (p : Int) : (pgAt s.L p = none ∧ ∃ P : Int, atI s.L p = P ∧ P < 0) ∨ ∃ (j : Nat) (g : Pg), s.L[j]? = some g ∧ (j : Int) < (s.L.length : Int) ∧ pgAt s.L p = some g ∧ atI s.L p = (j : Int) ∧ g.f = p ∧ levP s.L p = g.k.lev ∧ (1 ≤ g.k.lev ∧ g.k.lev ≤ 3) ∧ (0 ≤ p ∧ p < 1048576) := by
 rcases atI_pg s.L p with ⟨e1, e2⟩ | ⟨j, g, e1, hj, e2, e3⟩
 ·exact .inl ⟨e1, -1, e2, by omega⟩
 have hm := List.mem_of_getElem? e1
 have hr := ok.right g hm
 unfold Ky.right at hr
 rw [decide_eq_true_eq] at hr
 have hin := ok.inL hm
 have hf := (pgAt_mem e2).2
 have := ok.le; have := ok.n256
 exact .inr ⟨j, g, e1, by omega, e2, e3, hf, by unfold levP; rw [e2]; rfl, by omega, by omega⟩
theorem RStX.lev {w : World} (h : RStX w q rp rb fp n a m s LA lc R FS) {j : Nat} {g : Pg} (hq : s.L[j]? = some g) : ∃ b, LA = some ⟨b, 0, none⟩ ∧ w.cell? ⟨b, j * 5 + 2, none⟩ = some (.int .i64 g.k.lev) := by
 obtain ⟨b, r, cs, e, _, _, _, _, d2, _⟩ := h.page0 hq
 exact ⟨b, e, d2⟩
set_option maxRecDepth 100000 in
set_option maxHeartbeats 8000000 in
theorem RChild_any (p i c : Int) (r : Rg) (w : World) (h : RStX w q rp rb fp n a m s LA lc R FS) (ok : SrOk n a m s) :
  Calls Tryz.prog 54 #[.pointer (some ⟨q, 0, none⟩), .int .i64 p, .int .i64 i, .int .i64 c, .agg r.cs] w (RCh q rp rb fp n a m (childS n s p i c r) LA lc R FS (.bool (childB s p i c)) w) := by
 have hat := fun (x : Int) w' (y : Chg [] w w') => Rat_any x w' (h.new y) ok.le256
 have y1 := (Chg.refl [] w).alloc (.cells r.cs 35)
 have br := Blk.new w 35 r.cs
 have hrl : w.heap.size < (w.alloc (.cells r.cs 35)).heap.size := by simp
 rcases at_pg ok p with ⟨hn, P, hP, hP0⟩ | ⟨j, g1, hj, hjl, hg1, hP, hf1, hl1, hb1, _⟩
 ·have e1 : childB s p i c = false := by unfold childB hasS; rw [hn]; simp
  have e2 : childS n s p i c r = s := by unfold childS; rw [e1]; rfl
  rw [e1, e2]
  clear e1 e2
  have b1 : decide (P < 0) = true := decide_eq_true hP0
  have hatp := hat p
  have hatc := hat c
  clear hat
  rw [hP] at hatp
  generalize atI s.L c = C at hatc
  clear hn hP hP0
  obtain ⟨rw_, ru, rx⟩ := r
  simp only [Rg.cs] at *
  generalize hw1 : w.alloc (.cells #[.bool rw_, .bool ru, .bool rx] 35) = w1 at *
  replace hw1 := Lib.hid hw1
  obtain ⟨xb, hxb⟩ : ∃ xb, w.heap.size = xb := ⟨_, rfl⟩
  rw [hxb] at br hrl
  replace hxb := Lib.hid hxb
  go_enter Tryz.func54, Tryz.ntmps54
  go_wp2_with fail
  try rw [hw1.out, hxb.out]
  refine (hatp _ y1).mono ?_; rintro e w2 ⟨rfl, z2⟩
  have y2 := y1.trans z2 (by simp)
  go_wp2_with fail
  refine (hatc _ y2).mono ?_; rintro e w3 ⟨rfl, z3⟩
  have y3 := y2.trans z3 (by simp)
  go_wp2_with fail
  refine wp_region_cls (by kernel_rfl) (by kernel_rfl) ?_
  repeat (go_big_quiet_step (fail))
  refine wpQuiet_nil ?_
  rintro _ ⟨nq, rfl⟩
  go_wp2_with fail
  go_ret
  exact RCh.same h (y3.trans nq.ok (by simp)) _
 rcases at_pg ok c with ⟨hn, C, hC, hC0⟩ | ⟨k, g2, hk, hkl, hg2, hC, hf2, hl2, hb2, hc6⟩
 ·have e1 : childB s p i c = false := by unfold childB; rw [hn]; simp
  have e2 : childS n s p i c r = s := by unfold childS; rw [e1]; rfl
  rw [e1, e2]
  clear e1 e2
  have b1 : decide ((j : Int) < 0) = false := decide_eq_false (by omega)
  have b2 : decide (C < 0) = true := decide_eq_true hC0
  have hatp := hat p
  have hatc := hat c
  clear hat
  rw [hP] at hatp
  rw [hC] at hatc
  clear hn hP hC hC0 hg1 hj hl1 hb1
  obtain ⟨rw_, ru, rx⟩ := r
  simp only [Rg.cs] at *
  generalize hw1 : w.alloc (.cells #[.bool rw_, .bool ru, .bool rx] 35) = w1 at *
  replace hw1 := Lib.hid hw1
  obtain ⟨xb, hxb⟩ : ∃ xb, w.heap.size = xb := ⟨_, rfl⟩
  rw [hxb] at br hrl
  replace hxb := Lib.hid hxb
  go_enter Tryz.func54, Tryz.ntmps54
  go_wp2_with fail
  try rw [hw1.out, hxb.out]
  refine (hatp _ y1).mono ?_; rintro e w2 ⟨rfl, z2⟩
  have y2 := y1.trans z2 (by simp)
  go_wp2_with fail
  refine (hatc _ y2).mono ?_; rintro e w3 ⟨rfl, z3⟩
  have y3 := y2.trans z3 (by simp)
  go_wp2_with fail
  refine wp_region_cls (by kernel_rfl) (by kernel_rfl) ?_
  repeat (go_big_quiet_step (fail))
  refine wpQuiet_nil ?_
  rintro _ ⟨nq, rfl⟩
  go_wp2_with fail
  go_ret
  exact RCh.same h (y3.trans nq.ok (by simp)) _
 have hatp := hat p
 have hatc := hat c
 clear hat
 rw [hP] at hatp
 rw [hC] at hatc
 have b1 : decide ((j : Int) < 0) = false := decide_eq_false (by omega)
 have b2 : decide ((k : Int) < 0) = false := decide_eq_false (by omega)
 by_cases hi0 : i < 0
 ·have e1 : childB s p i c = false := by unfold childB hasS; simp; omega
  have e2 : childS n s p i c r = s := by unfold childS; rw [e1]; rfl
  rw [e1, e2]
  clear e1 e2
  have b3 : decide (i < 0) = true := decide_eq_true hi0
  clear hi0 hP hC hg1 hg2 hj hk hl1 hl2 hb1 hb2
  obtain ⟨rw_, ru, rx⟩ := r
  simp only [Rg.cs] at *
  generalize hw1 : w.alloc (.cells #[.bool rw_, .bool ru, .bool rx] 35) = w1 at *
  replace hw1 := Lib.hid hw1
  obtain ⟨xb, hxb⟩ : ∃ xb, w.heap.size = xb := ⟨_, rfl⟩
  rw [hxb] at br hrl
  replace hxb := Lib.hid hxb
  go_enter Tryz.func54, Tryz.ntmps54
  go_wp2_with fail
  try rw [hw1.out, hxb.out]
  refine (hatp _ y1).mono ?_; rintro e w2 ⟨rfl, z2⟩
  have y2 := y1.trans z2 (by simp)
  go_wp2_with fail
  refine (hatc _ y2).mono ?_; rintro e w3 ⟨rfl, z3⟩
  have y3 := y2.trans z3 (by simp)
  go_wp2_with fail
  refine wp_region_cls (by kernel_rfl) (by kernel_rfl) ?_
  repeat (go_big_quiet_step (fail))
  refine wpQuiet_nil ?_
  rintro _ ⟨nq, rfl⟩
  go_wp2_with fail
  go_ret
  exact RCh.same h (y3.trans nq.ok (by simp)) _
 have b3 : decide (i < 0) = false := decide_eq_false hi0
 by_cases hi7 : i > 7
 ·have e1 : childB s p i c = false := by unfold childB hasS; simp; omega
  have e2 : childS n s p i c r = s := by unfold childS; rw [e1]; rfl
  rw [e1, e2]
  clear e1 e2
  have b4 : decide (i > 7) = true := decide_eq_true hi7
  clear hi0 hi7 hP hC hg1 hg2 hj hk hl1 hl2 hb1 hb2
  obtain ⟨rw_, ru, rx⟩ := r
  simp only [Rg.cs] at *
  generalize hw1 : w.alloc (.cells #[.bool rw_, .bool ru, .bool rx] 35) = w1 at *
  replace hw1 := Lib.hid hw1
  obtain ⟨xb, hxb⟩ : ∃ xb, w.heap.size = xb := ⟨_, rfl⟩
  rw [hxb] at br hrl
  replace hxb := Lib.hid hxb
  go_enter Tryz.func54, Tryz.ntmps54
  go_wp2_with fail
  try rw [hw1.out, hxb.out]
  refine (hatp _ y1).mono ?_; rintro e w2 ⟨rfl, z2⟩
  have y2 := y1.trans z2 (by simp)
  go_wp2_with fail
  refine (hatc _ y2).mono ?_; rintro e w3 ⟨rfl, z3⟩
  have y3 := y2.trans z3 (by simp)
  go_wp2_with fail
  refine wp_region_cls (by kernel_rfl) (by kernel_rfl) ?_
  repeat (go_big_quiet_step (fail))
  refine wpQuiet_nil ?_
  rintro _ ⟨nq, rfl⟩
  go_wp2_with fail
  go_ret
  exact RCh.same h (y3.trans nq.ok (by simp)) _
 have b4 : decide (i > 7) = false := decide_eq_false hi7
 have hjz : ¬ (j : Int) < 0 := by omega
 have hkz : ¬ (k : Int) < 0 := by omega
 generalize hlv1 : g1.k.lev = l1 at *
 generalize hlv2 : g2.k.lev = l2 at *
 skip
 have hRl1 : ∀ w' {LA : Option Addr}, RStX w' q rp rb fp n a m s LA lc R FS → ∃ b, LA = some ⟨b, 0, none⟩ ∧ w'.cell? ⟨b, j * 5 + 2, none⟩ = some (.int .i64 l1) := fun w' _ hh => by rw [← hlv1]; exact hh.lev hj
 have hRl2 : ∀ w' {LA : Option Addr}, RStX w' q rp rb fp n a m s LA lc R FS → ∃ b, LA = some ⟨b, 0, none⟩ ∧ w'.cell? ⟨b, k * 5 + 2, none⟩ = some (.int .i64 l2) := fun w' _ hh => by rw [← hlv2]; exact hh.lev hk
 by_cases hlev : l2 = l1 - 1
 ·have e1 : childB s p i c = true := by unfold childB hasS; rw [hg1, hg2, hl1, hl2]; simp; omega
  have e2 : childS n s p i c r = setS n s p i ⟨1, c, r⟩ c := by unfold childS; rw [e1, if_pos rfl]
  rw [e1, e2]
  clear e1 e2
  obtain ⟨I, rfl⟩ := Int.eq_ofNat_of_zero_le (show 0 ≤ i by omega)
  have hset := fun w' (y : Chg [] w w') => Rset_any j g1 I ⟨1, c, r⟩ c w' (h.new y) ok hj (by omega) (fun _ => hc6)
  rw [hf1] at hset
  simp only [Slt.cl] at hset
  have hlb : (l2 != l1 - 1) = false := by simp [hlev]
  clear hlev hP hC hg1 hg2 hj hk hl1 hl2 hlv1 hlv2 hf1 hf2 hi0 hi7
  obtain ⟨rw_, ru, rx⟩ := r
  simp only [Rg.cs] at *
  generalize hw1 : w.alloc (.cells #[.bool rw_, .bool ru, .bool rx] 35) = w1 at *
  replace hw1 := Lib.hid hw1
  obtain ⟨xb, hxb⟩ : ∃ xb, w.heap.size = xb := ⟨_, rfl⟩
  rw [hxb] at br hrl
  replace hxb := Lib.hid hxb
  go_enter Tryz.func54, Tryz.ntmps54
  go_wp2_with fail
  try rw [hw1.out, hxb.out]
  refine (hatp _ y1).mono ?_; rintro e w2 ⟨rfl, z2⟩
  have y2 := y1.trans z2 (by simp)
  go_wp2_with fail
  refine (hatc _ y2).mono ?_; rintro e w3 ⟨rfl, z3⟩
  have y3 := y2.trans z3 (by simp)
  go_wp2_with fail
  have hr3 := h.new y3
  have q3 := hr3.st.cell 2
  simp only [qA, qZ, qS] at q3
  obtain ⟨b, rfl, d2⟩ := hRl1 _ hr3
  obtain ⟨b', eb, e2⟩ := hRl2 _ hr3
  cases eb
  have K0 := fun nq : Cls w3 => nq.cell q3
  have K1 := fun nq : Cls w3 => nq.cell d2
  have K2 := fun nq : Cls w3 => nq.cell e2
  clear q3 d2 e2 hr3 hRl1 hRl2
  refine wp_region_cls (by kernel_rfl) (by kernel_rfl) ?_
  repeat (go_big_quiet_step (fail))
  refine wpQuiet_nil ?_
  rintro _ ⟨nq, rfl⟩
  have br3 := br.chg_ (z2.trans (z3.trans nq.ok (by simp)) (by simp)) (by simp)
  have x0 := br3.cell 0; have x1 := br3.cell 1; have x2 := br3.cell 2
  simp only [qA, qZ, qS] at x0 x1 x2
  go_wp2_with fail
  refine (hset _ (y3.trans nq.ok (by simp))).mono ?_; intro e w5 hr
  obtain ⟨rfl, _⟩ := id hr
  go_wp2_with fail
  go_ret
  exact hr.from_ (y3.trans nq.ok (by simp)) _
 have e1 : childB s p i c = false := by unfold childB; rw [hl1, hl2]; simp [hlev]
 have e2 : childS n s p i c r = s := by unfold childS; rw [e1]; rfl
 rw [e1, e2]
 clear e1 e2
 have hlb : (l2 != l1 - 1) = true := by simp [hlev]
 clear hlev hP hC hg1 hg2 hj hk hl1 hl2 hlv1 hlv2 hf1 hf2 hi0 hi7
 obtain ⟨rw_, ru, rx⟩ := r
 simp only [Rg.cs] at *
 generalize hw1 : w.alloc (.cells #[.bool rw_, .bool ru, .bool rx] 35) = w1 at *
 replace hw1 := Lib.hid hw1
 obtain ⟨xb, hxb⟩ : ∃ xb, w.heap.size = xb := ⟨_, rfl⟩
 rw [hxb] at br hrl
 replace hxb := Lib.hid hxb
 go_enter Tryz.func54, Tryz.ntmps54
 go_wp2_with fail
 try rw [hw1.out, hxb.out]
 refine (hatp _ y1).mono ?_; rintro e w2 ⟨rfl, z2⟩
 have y2 := y1.trans z2 (by simp)
 go_wp2_with fail
 refine (hatc _ y2).mono ?_; rintro e w3 ⟨rfl, z3⟩
 have y3 := y2.trans z3 (by simp)
 go_wp2_with fail
 have hr3 := h.new y3
 have q3 := hr3.st.cell 2
 simp only [qA, qZ, qS] at q3
 obtain ⟨b, rfl, d2⟩ := hRl1 _ hr3
 obtain ⟨b', eb, e2⟩ := hRl2 _ hr3
 cases eb
 have K0 := fun nq : Cls w3 => nq.cell q3
 have K1 := fun nq : Cls w3 => nq.cell d2
 have K2 := fun nq : Cls w3 => nq.cell e2
 clear q3 d2 e2 hr3 hRl1 hRl2
 refine wp_region_cls (by kernel_rfl) (by kernel_rfl) ?_
 repeat (go_big_quiet_step (fail))
 refine wpQuiet_nil ?_
 rintro _ ⟨nq, rfl⟩
 go_wp2_with fail
 go_ret
 exact RCh.same h (y3.trans nq.ok (by simp)) _
set_option maxRecDepth 100000 in
set_option maxHeartbeats 8000000 in
theorem RLeaf_any (p i g x : Int) (r : Rg) (w : World) (h : RStX w q rp rb fp n a m s LA lc R FS) (ok : SrOk n a m s) :
  Calls Tryz.prog 55 #[.pointer (some ⟨q, 0, none⟩), .int .i64 p, .int .i64 i, .int .i64 g, .int .i64 x, .agg r.cs] w (RCh q rp rb fp n a m (leafS n s p i g x r) LA lc R FS (.bool (leafB n s p i x)) w) := by
 have hat := fun (x : Int) w' (y : Chg [] w w') => Rat_any x w' (h.new y) ok.le256
 have y1 := (Chg.refl [] w).alloc (.cells r.cs 35)
 have br := Blk.new w 35 r.cs
 have hrl : w.heap.size < (w.alloc (.cells r.cs 35)).heap.size := by simp
 have hatp := hat p
 clear hat
 rcases at_pg ok p with ⟨hn, P, hP, hP0⟩ | ⟨j, g1, hj, hjl, hg1, hP, hf1, hl1, hb1, _⟩
 ·have e1 : leafB n s p i x = false := by unfold leafB hasS; rw [hn]; simp
  have e2 : leafS n s p i g x r = s := by unfold leafS; rw [e1]; rfl
  rw [e1, e2]
  clear e1 e2
  have b1 : decide (P < 0) = true := decide_eq_true hP0
  rw [hP] at hatp
  clear hn hP hP0
  obtain ⟨rw_, ru, rx⟩ := r
  simp only [Rg.cs] at *
  generalize hw1 : w.alloc (.cells #[.bool rw_, .bool ru, .bool rx] 35) = w1 at *
  replace hw1 := Lib.hid hw1
  obtain ⟨xb, hxb⟩ : ∃ xb, w.heap.size = xb := ⟨_, rfl⟩
  rw [hxb] at br hrl
  replace hxb := Lib.hid hxb
  go_enter Tryz.func55, Tryz.ntmps55
  go_wp2_with fail
  try rw [hw1.out, hxb.out]
  refine (hatp _ y1).mono ?_; rintro e w2 ⟨rfl, z2⟩
  have y2 := y1.trans z2 (by simp)
  go_wp2_with fail
  go_ret
  exact RCh.same h y2 _
 rw [hP] at hatp
 have b1 : decide ((j : Int) < 0) = false := decide_eq_false (by omega)
 by_cases hi0 : i < 0
 ·have e1 : leafB n s p i x = false := by unfold leafB hasS; simp; omega
  have e2 : leafS n s p i g x r = s := by unfold leafS; rw [e1]; rfl
  rw [e1, e2]
  clear e1 e2
  have b3 : decide (i < 0) = true := decide_eq_true hi0
  clear hi0 hP hg1 hj hl1 hb1
  obtain ⟨rw_, ru, rx⟩ := r
  simp only [Rg.cs] at *
  generalize hw1 : w.alloc (.cells #[.bool rw_, .bool ru, .bool rx] 35) = w1 at *
  replace hw1 := Lib.hid hw1
  obtain ⟨xb, hxb⟩ : ∃ xb, w.heap.size = xb := ⟨_, rfl⟩
  rw [hxb] at br hrl
  replace hxb := Lib.hid hxb
  go_enter Tryz.func55, Tryz.ntmps55
  go_wp2_with fail
  try rw [hw1.out, hxb.out]
  refine (hatp _ y1).mono ?_; rintro e w2 ⟨rfl, z2⟩
  have y2 := y1.trans z2 (by simp)
  go_wp2_with fail
  go_ret
  exact RCh.same h y2 _
 have b3 : decide (i < 0) = false := decide_eq_false hi0
 by_cases hi7 : i > 7
 ·have e1 : leafB n s p i x = false := by unfold leafB hasS; simp; omega
  have e2 : leafS n s p i g x r = s := by unfold leafS; rw [e1]; rfl
  rw [e1, e2]
  clear e1 e2
  have b4 : decide (i > 7) = true := decide_eq_true hi7
  clear hi0 hi7 hP hg1 hj hl1 hb1
  obtain ⟨rw_, ru, rx⟩ := r
  simp only [Rg.cs] at *
  generalize hw1 : w.alloc (.cells #[.bool rw_, .bool ru, .bool rx] 35) = w1 at *
  replace hw1 := Lib.hid hw1
  obtain ⟨xb, hxb⟩ : ∃ xb, w.heap.size = xb := ⟨_, rfl⟩
  rw [hxb] at br hrl
  replace hxb := Lib.hid hxb
  go_enter Tryz.func55, Tryz.ntmps55
  go_wp2_with fail
  try rw [hw1.out, hxb.out]
  refine (hatp _ y1).mono ?_; rintro e w2 ⟨rfl, z2⟩
  have y2 := y1.trans z2 (by simp)
  go_wp2_with fail
  go_ret
  exact RCh.same h y2 _
 have b4 : decide (i > 7) = false := decide_eq_false hi7
 have hjz : ¬ (j : Int) < 0 := by omega
 generalize hlv1 : g1.k.lev = l1 at *
 have hRl1 : ∀ w' {LA : Option Addr}, RStX w' q rp rb fp n a m s LA lc R FS → ∃ b, LA = some ⟨b, 0, none⟩ ∧ w'.cell? ⟨b, j * 5 + 2, none⟩ = some (.int .i64 l1) := fun w' _ hh => by rw [← hlv1]; exact hh.lev hj
 by_cases hlev : l1 = 1
 ·have hlb : (l1 != 1) = false := by simp [hlev]
  by_cases hx0 : x < 0
  ·have e1 : leafB n s p i x = false := by unfold leafB; simp; omega
   have e2 : leafS n s p i g x r = s := by unfold leafS; rw [e1]; rfl
   rw [e1, e2]
   clear e1 e2
   have b5 : decide (x < 0) = true := decide_eq_true hx0
   clear hlev hP hg1 hj hl1 hlv1 hf1 hi0 hi7
   obtain ⟨rw_, ru, rx⟩ := r
   simp only [Rg.cs] at *
   generalize hw1 : w.alloc (.cells #[.bool rw_, .bool ru, .bool rx] 35) = w1 at *
   replace hw1 := Lib.hid hw1
   obtain ⟨xb, hxb⟩ : ∃ xb, w.heap.size = xb := ⟨_, rfl⟩
   rw [hxb] at br hrl
   replace hxb := Lib.hid hxb
   go_enter Tryz.func55, Tryz.ntmps55
   go_wp2_with fail
   try rw [hw1.out, hxb.out]
   refine (hatp _ y1).mono ?_; rintro e w2 ⟨rfl, z2⟩
   have y2 := y1.trans z2 (by simp)
   have hr2 := h.new y2
   have q2 := hr2.st.cell 2; have q0 := hr2.st.cell 0
   simp only [qA, qZ, qS] at q0 q2
   obtain ⟨b, rfl, d2⟩ := hRl1 _ hr2
   have hFr := RFrames_any rp rb n s.W w2 hr2.hm
   clear hr2 hRl1
   go_wp2_with fail
   go_ret
   exact RCh.same h y2 _
  have b5 : decide (x < 0) = false := decide_eq_false hx0
  by_cases hxn : x ≥ (n : Int)
  ·have e1 : leafB n s p i x = false := by unfold leafB; simp; omega
   have e2 : leafS n s p i g x r = s := by unfold leafS; rw [e1]; rfl
   rw [e1, e2]
   clear e1 e2
   have b6 : decide (x ≥ (n : Int)) = true := decide_eq_true hxn
   clear hlev hP hg1 hj hl1 hlv1 hf1 hi0 hi7
   clear hx0
   obtain ⟨rw_, ru, rx⟩ := r
   simp only [Rg.cs] at *
   generalize hw1 : w.alloc (.cells #[.bool rw_, .bool ru, .bool rx] 35) = w1 at *
   replace hw1 := Lib.hid hw1
   obtain ⟨xb, hxb⟩ : ∃ xb, w.heap.size = xb := ⟨_, rfl⟩
   rw [hxb] at br hrl
   replace hxb := Lib.hid hxb
   go_enter Tryz.func55, Tryz.ntmps55
   go_wp2_with fail
   try rw [hw1.out, hxb.out]
   refine (hatp _ y1).mono ?_; rintro e w2 ⟨rfl, z2⟩
   have y2 := y1.trans z2 (by simp)
   have hr2 := h.new y2
   have q2 := hr2.st.cell 2; have q0 := hr2.st.cell 0
   simp only [qA, qZ, qS] at q0 q2
   obtain ⟨b, rfl, d2⟩ := hRl1 _ hr2
   have hFr := RFrames_any rp rb n s.W w2 hr2.hm
   clear hr2 hRl1
   go_wp2_with fail
   refine hFr.mono ?_; rintro e w3 ⟨rfl, rfl⟩
   go_wp2_with fail
   go_ret
   exact RCh.same h y2 _
  have b6 : decide (x ≥ (n : Int)) = false := decide_eq_false hxn
  have hn6 := ok.n256
  have e1 : leafB n s p i x = true := by unfold leafB hasS; rw [hg1, hl1]; simp; omega
  have e2 : leafS n s p i g x r = setS n s p i ⟨2, g, r⟩ x := by unfold leafS; rw [e1, if_pos rfl]
  rw [e1, e2]
  clear e1 e2
  obtain ⟨I, rfl⟩ := Int.eq_ofNat_of_zero_le (show 0 ≤ i by omega)
  have hset := fun w' (y : Chg [] w w') => Rset_any j g1 I ⟨2, g, r⟩ x w' (h.new y) ok hj (by omega) (fun _ => by omega)
  rw [hf1] at hset
  simp only [Slt.cl] at hset
  clear hlev hP hg1 hj hl1 hlv1 hf1 hi0 hi7
  clear hx0 hxn
  obtain ⟨rw_, ru, rx⟩ := r
  simp only [Rg.cs] at *
  generalize hw1 : w.alloc (.cells #[.bool rw_, .bool ru, .bool rx] 35) = w1 at *
  replace hw1 := Lib.hid hw1
  obtain ⟨xb, hxb⟩ : ∃ xb, w.heap.size = xb := ⟨_, rfl⟩
  rw [hxb] at br hrl
  replace hxb := Lib.hid hxb
  go_enter Tryz.func55, Tryz.ntmps55
  go_wp2_with fail
  try rw [hw1.out, hxb.out]
  refine (hatp _ y1).mono ?_; rintro e w2 ⟨rfl, z2⟩
  have y2 := y1.trans z2 (by simp)
  have hr2 := h.new y2
  have q2 := hr2.st.cell 2; have q0 := hr2.st.cell 0
  simp only [qA, qZ, qS] at q0 q2
  obtain ⟨b, rfl, d2⟩ := hRl1 _ hr2
  have hFr := RFrames_any rp rb n s.W w2 hr2.hm
  clear hr2 hRl1
  go_wp2_with fail
  refine hFr.mono ?_; rintro e w3 ⟨rfl, rfl⟩
  have br3 := br.chg_ z2 (by simp)
  have x0 := br3.cell 0; have x1 := br3.cell 1; have x2 := br3.cell 2
  simp only [qA, qZ, qS] at x0 x1 x2
  go_wp2_with fail
  refine (hset _ y2).mono ?_; intro e w5 hr
  obtain ⟨rfl, _⟩ := id hr
  go_wp2_with fail
  go_ret
  exact hr.from_ y2 _
 have e1 : leafB n s p i x = false := by unfold leafB; rw [hl1]; simp [hlev]
 have e2 : leafS n s p i g x r = s := by unfold leafS; rw [e1]; rfl
 rw [e1, e2]
 clear e1 e2
 have hlb : (l1 != 1) = true := by simp [hlev]
 clear hlev hP hg1 hj hl1 hlv1 hf1 hi0 hi7
 obtain ⟨rw_, ru, rx⟩ := r
 simp only [Rg.cs] at *
 generalize hw1 : w.alloc (.cells #[.bool rw_, .bool ru, .bool rx] 35) = w1 at *
 replace hw1 := Lib.hid hw1
 obtain ⟨xb, hxb⟩ : ∃ xb, w.heap.size = xb := ⟨_, rfl⟩
 rw [hxb] at br hrl
 replace hxb := Lib.hid hxb
 go_enter Tryz.func55, Tryz.ntmps55
 go_wp2_with fail
 try rw [hw1.out, hxb.out]
 refine (hatp _ y1).mono ?_; rintro e w2 ⟨rfl, z2⟩
 have y2 := y1.trans z2 (by simp)
 have hr2 := h.new y2
 have q2 := hr2.st.cell 2; have q0 := hr2.st.cell 0
 simp only [qA, qZ, qS] at q0 q2
 obtain ⟨b, rfl, d2⟩ := hRl1 _ hr2
 have hFr := RFrames_any rp rb n s.W w2 hr2.hm
 clear hr2 hRl1
 go_wp2_with fail
 go_ret
 exact RCh.same h y2 _
end
def RGo (q rp rb fp n a m : Nat) (s1 : Sr) (LA : Option Addr) (R : List (Option Addr × Nat)) (FS : List Nat) (u : Value) (w : World) (e : Ending) (w' : World) : Prop :=
 e = .returned u ∧ ∃ LA' lc' R' FS', RStX w' q rp rb fp n a m s1 LA' lc' R' FS' ∧ Chg (rb :: q :: (lB LA ++ FS)) w w' ∧ (∀ g ∈ lB LA' ++ FS', g ∈ lB LA ++ FS ∨ w.heap.size ≤ g) ∧ RNew w R R'
theorem Page14_info : ((Tryz.prog.info? 115).map (fun i => (i.zero, i.size, i.bytes))) = some (some (.agg #[.int .i64 0, .int .i64 0, .int .i64 0, .int .i64 0, .slice none 0 0]), 5, 56) := by kernel_rfl
def slots8 : List Value := sltE.all (List.replicate 8 Slt.no)
theorem mk_slots (w : World) : (Instr.makeSlice 113 (.int .i64 8) (.int .i64 8)).run Tryz.prog w = .ok (.slice (some ⟨w.heap.size, 0, none⟩) 8 8) (w.alloc (.cells slots8.toArray 72)) := by kernel_rfl
section
variable {q rp rb fp n a m : Nat} {s : Sr} {LA : Option Addr} {lc : Nat} {R : List (Option Addr × Nat)} {FS : List Nat}
theorem RGo.same {w w' : World} (h : RStX w q rp rb fp n a m s LA lc R FS) (y : Chg [] w w') (u : Value) : RGo q rp rb fp n a m s LA R FS u w (.returned u) w' :=
 ⟨rfl, LA, lc, R, FS, h.new y, y.weak (by simp), fun _ h => .inl h, RNew.refl _ _⟩
theorem RCh.go {w w' : World} {s1 : Sr} {u : Value} {e : Ending} (h : RCh q rp rb fp n a m s1 LA lc R FS u w e w') : RGo q rp rb fp n a m s1 LA R FS u w e w' := by
 obtain ⟨he, R', h1, h2, h3⟩ := h
 exact ⟨he, LA, lc, R', FS, h1, h2.weak (fun i _ hi => by simp only [List.mem_cons, List.mem_append] at hi ⊢; rcases hi with hi | hi <;> simp [hi]), fun _ h => .inl h, h3⟩
theorem RStX.more {w : World} (h : RStX w q rp rb fp n a m s LA lc R FS) {A : Option Addr} {c : Nat} {p : Pg} {r : Option Addr × Nat} (ho : OwnG rpE w 115 (.slice A (s.L.length + 1) c) (rowsR s.L R ++ [(p.f, p.k, r)])) (hs : OwnG sltE w 72 (.slice r.1 8 r.2) p.s) :
  RStX (w.setCell ⟨q, 2, none⟩ (.slice A (s.L.length + 1) c)) q rp rb fp n a m ⟨s.L ++ [p], s.fr, s.W⟩ A c (R ++ [r]) FS := by
 have hc : Chg [q] w (w.setCell ⟨q, 2, none⟩ (.slice A (s.L.length + 1) c)) := (Chg.refl [q] w).setCell (by simp) _
 have hlen := h.len
 have hl1 : (s.L ++ [p]).length = s.L.length + 1 := by simp
 have hst := h.st.set_ 2 (.slice A (s.L.length + 1) c)
 refine ⟨by show Blk _ q _ #[_, _, .slice A (s.L ++ [p]).length c]; rw [hl1]; simpa using hst, h.hm.chg hc (by have := h.hm.st.type_ne h.st (by decide); simpa using this) (by have := h.hm.ws.type_ne h.st (by decide); simpa using this), h.hf.chg hc (h.hf.nb h.st (by decide) (by decide)), ?_, by simp [hlen], ?_⟩
 ·have e : rowsR (s.L ++ [p]) (R ++ [r]) = rowsR s.L R ++ [(p.f, p.k, r)] := by
   unfold rowsR; rw [List.zipWith_append (by omega)]; rfl
  show OwnG rpE _ _ (.slice A (s.L ++ [p]).length c) (rowsR (s.L ++ [p]) (R ++ [r]))
  rw [e, hl1]
  exact ho.chg hc (own_nb ho h.st (by decide))
 intro j q' r' hq hr
 by_cases hj : j < s.L.length
 ·rw [List.getElem?_append_left hj] at hq
  rw [List.getElem?_append_left (by omega)] at hr
  exact (h.hs j q' r' hq hr).chg hc (own_nb (h.hs j q' r' hq hr) h.st (by decide))
 rw [List.getElem?_append_right (by omega)] at hq hr
 rw [hlen] at hr
 cases e : j - s.L.length with
 | zero => rw [e] at hq hr; cases hq; cases hr; exact hs.chg hc (own_nb hs h.st (by decide))
 | succ k => rw [e] at hq; simp at hq
set_option maxRecDepth 100000 in
set_option maxHeartbeats 2000000 in
theorem RNew14_yes (rp rb n : Nat) (W : List Int) (a m : Nat) (w : World) (hm : RMemAt w rp rb n W) (h : a + m ≤ n) :
  Calls Tryz.prog 45 #[.pointer (some ⟨rp, 0, none⟩), .int .i64 a, .int .i64 m] w fun e w' => ∃ q fp FS, e = .returned (.pointer (some ⟨q, 0, none⟩)) ∧ RStX w' q rp rb fp n a m ⟨[], dnk a m, W⟩ none 0 [] FS ∧ Chg [] w w' ∧ w.heap.size ≤ q ∧ ∀ g ∈ FS, w.heap.size ≤ g := by
 have hn := hm.le
 have hF := RFNew_at a m w (by omega)
 have hFr := fun w' (y : Chg [] w w') => RFrames_any rp rb n W w' (hm.chg y (by simp) (by simp))
 have hb : decide ((a : Int) + (m : Int) > (n : Int)) = false := decide_eq_false (by omega)
 go_enter Tryz.func45, Tryz.ntmps45
 go_wp2_with fail
 refine hF.mono ?_; rintro e w2 ⟨fp, FS, rfl, y2, hf, hg⟩
 go_wp2_with fail
 refine (hFr _ y2).mono ?_; rintro e w3 ⟨rfl, rfl⟩
 go_wp2_with fail
 go_ret
 refine ⟨w2.heap.size, fp, FS, rfl, ⟨Blk.new _ _ _, hm.chg (y2.alloc _) (by simp) (by simp), hf.chg ((Chg.refl [] w2).alloc _) (by simp), OwnG.none_ _ _, rfl, fun j q r hq => by simp at hq⟩, y2.alloc _, y2.size, hg⟩
set_option maxRecDepth 100000 in
set_option maxHeartbeats 16000000 in
theorem RMake_any (k : Ky) (w : World) (h : RStX w q rp rb fp n a m s LA lc R FS) (ok : SrOk n a m s) :
  Calls Tryz.prog 97 #[.pointer (some ⟨q, 0, none⟩), .agg k.cs] w (RGo q rp rb fp n a m (makeS n s k) LA R FS (.tuple #[.int .i64 (makeV s k), .bool (makeB s k)]) w) := by
 have hfd := fun w' (y : Chg [] w w') => RFind_any k w' (h.new y) ok.le256
 have hmB : makeB s k = ((pgOf s.L k).isNone && k.right && !s.fr.isEmpty) := rfl
 have hno : makeB s k = false → makeS n s k = s ∧ makeV s k = 0 := fun e => by unfold makeS makeV; rw [e]; exact ⟨rfl, rfl⟩
 have y0 := (Chg.refl [] w).alloc (.cells k.cs 33)
 have kb0 := Blk.new w 33 k.cs
 have hkl : w.heap.size < (w.alloc (.cells k.cs 33)).heap.size := by simp
 have hkk : k.cs = #[.int .i64 k.g, .int .i64 k.lev, .int .i64 k.role] := rfl
 simp only [hkk] at kb0 y0 hfd hkl ⊢
 clear hkk
 have x0 := kb0.cell 0; have x1 := kb0.cell 1; have x2 := kb0.cell 2
 simp only [qA, qZ, qS] at x0 x1 x2
 cases hpo : pgOf s.L k with
 | some pk =>
  rw [hpo] at hmB hfd
  simp only [Option.isNone_some, Bool.false_and] at hmB
  obtain ⟨e1, e2⟩ := hno hmB
  rw [e1, e2, hmB]
  simp only [Option.isSome_some] at hfd
  clear hno hmB e1 e2
  go_enter Tryz.func97, Tryz.ntmps97
  go_wp2_with fail
  refine (hfd _ y0).mono ?_; rintro e w2 ⟨rfl, y2⟩
  have kb2 := kb0.chg_ y2 (by simp)
  have z2 := y0.trans y2 (by simp)
  clear hfd x0 x1 x2
  obtain ⟨kb, hkb⟩ : ∃ kb, w.heap.size = kb := ⟨_, rfl⟩
  rw [hkb] at kb2 hkl ⊢
  have hkb2 := Nat.lt_of_lt_of_le hkl y2.size
  clear y2 kb0 hkl
  clear y0
  replace hkb := Lib.hid hkb
  have x0 := kb2.cell 0; have x1 := kb2.cell 1; have x2 := kb2.cell 2
  simp only [qA, qZ, qS] at x0 x1 x2
  go_wp2_with fail
  go_ret2
  exact RGo.same h z2 _
 | none =>
  have hfv : findV s.L k = 0 := by unfold findV; rw [hpo]; rfl
  rw [hpo] at hmB hfd
  rw [hfv] at hfd
  simp only [Option.isNone_none, Bool.true_and, Option.isSome_none] at hmB hfd
  clear hfv
  by_cases c1 : k.lev < 1
  ·have hr : k.right = false := by unfold Ky.right; exact decide_eq_false (by omega)
   rw [hr] at hmB
   simp only [Bool.false_and] at hmB
   obtain ⟨e1, e2⟩ := hno hmB
   rw [e1, e2, hmB]
   clear hno hmB e1 e2 hr
   have bc1 : decide (k.lev < 1) = true := decide_eq_true c1
   clear c1
   go_enter Tryz.func97, Tryz.ntmps97
   go_wp2_with fail
   refine (hfd _ y0).mono ?_; rintro e w2 ⟨rfl, y2⟩
   have kb2 := kb0.chg_ y2 (by simp)
   have z2 := y0.trans y2 (by simp)
   clear hfd x0 x1 x2
   obtain ⟨kb, hkb⟩ : ∃ kb, w.heap.size = kb := ⟨_, rfl⟩
   rw [hkb] at kb2 hkl ⊢
   have hkb2 := Nat.lt_of_lt_of_le hkl y2.size
   clear y2 kb0 hkl
   clear y0
   replace hkb := Lib.hid hkb
   have x0 := kb2.cell 0; have x1 := kb2.cell 1; have x2 := kb2.cell 2
   simp only [qA, qZ, qS] at x0 x1 x2
   go_wp2_with fail
   go_ret2
   exact RGo.same h z2 _
  have bc1 : decide (k.lev < 1) = false := decide_eq_false c1
  by_cases c2 : k.lev > 3
  ·have hr : k.right = false := by unfold Ky.right; exact decide_eq_false (by omega)
   rw [hr] at hmB
   simp only [Bool.false_and] at hmB
   obtain ⟨e1, e2⟩ := hno hmB
   rw [e1, e2, hmB]
   clear hno hmB e1 e2 hr
   have bc2 : decide (k.lev > 3) = true := decide_eq_true c2
   clear c1 c2
   go_enter Tryz.func97, Tryz.ntmps97
   go_wp2_with fail
   refine (hfd _ y0).mono ?_; rintro e w2 ⟨rfl, y2⟩
   have kb2 := kb0.chg_ y2 (by simp)
   have z2 := y0.trans y2 (by simp)
   clear hfd x0 x1 x2
   obtain ⟨kb, hkb⟩ : ∃ kb, w.heap.size = kb := ⟨_, rfl⟩
   rw [hkb] at kb2 hkl ⊢
   have hkb2 := Nat.lt_of_lt_of_le hkl y2.size
   clear y2 kb0 hkl
   clear y0
   replace hkb := Lib.hid hkb
   have x0 := kb2.cell 0; have x1 := kb2.cell 1; have x2 := kb2.cell 2
   simp only [qA, qZ, qS] at x0 x1 x2
   go_wp2_with fail
   go_ret2
   exact RGo.same h z2 _
  have bc2 : decide (k.lev > 3) = false := decide_eq_false c2
  by_cases c3 : k.role < 0
  ·have hr : k.right = false := by unfold Ky.right; exact decide_eq_false (by omega)
   rw [hr] at hmB
   simp only [Bool.false_and] at hmB
   obtain ⟨e1, e2⟩ := hno hmB
   rw [e1, e2, hmB]
   clear hno hmB e1 e2 hr
   have bc3 : decide (k.role < 0) = true := decide_eq_true c3
   clear c1 c2 c3
   go_enter Tryz.func97, Tryz.ntmps97
   go_wp2_with fail
   refine (hfd _ y0).mono ?_; rintro e w2 ⟨rfl, y2⟩
   have kb2 := kb0.chg_ y2 (by simp)
   have z2 := y0.trans y2 (by simp)
   clear hfd x0 x1 x2
   obtain ⟨kb, hkb⟩ : ∃ kb, w.heap.size = kb := ⟨_, rfl⟩
   rw [hkb] at kb2 hkl ⊢
   have hkb2 := Nat.lt_of_lt_of_le hkl y2.size
   clear y2 kb0 hkl
   clear y0
   replace hkb := Lib.hid hkb
   have x0 := kb2.cell 0; have x1 := kb2.cell 1; have x2 := kb2.cell 2
   simp only [qA, qZ, qS] at x0 x1 x2
   go_wp2_with fail
   go_ret2
   exact RGo.same h z2 _
  have bc3 : decide (k.role < 0) = false := decide_eq_false c3
  by_cases c4 : k.role > 2
  ·have hr : k.right = false := by unfold Ky.right; exact decide_eq_false (by omega)
   rw [hr] at hmB
   simp only [Bool.false_and] at hmB
   obtain ⟨e1, e2⟩ := hno hmB
   rw [e1, e2, hmB]
   clear hno hmB e1 e2 hr
   have bc4 : decide (k.role > 2) = true := decide_eq_true c4
   clear c1 c2 c3 c4
   go_enter Tryz.func97, Tryz.ntmps97
   go_wp2_with fail
   refine (hfd _ y0).mono ?_; rintro e w2 ⟨rfl, y2⟩
   have kb2 := kb0.chg_ y2 (by simp)
   have z2 := y0.trans y2 (by simp)
   clear hfd x0 x1 x2
   obtain ⟨kb, hkb⟩ : ∃ kb, w.heap.size = kb := ⟨_, rfl⟩
   rw [hkb] at kb2 hkl ⊢
   have hkb2 := Nat.lt_of_lt_of_le hkl y2.size
   clear y2 kb0 hkl
   clear y0
   replace hkb := Lib.hid hkb
   have x0 := kb2.cell 0; have x1 := kb2.cell 1; have x2 := kb2.cell 2
   simp only [qA, qZ, qS] at x0 x1 x2
   go_wp2_with fail
   go_ret2
   exact RGo.same h z2 _
  have bc4 : decide (k.role > 2) = false := decide_eq_false c4
  by_cases c5 : k.role > 0 ∧ k.lev ≠ 1
  ·have hr : k.right = false := by unfold Ky.right; exact decide_eq_false (by omega)
   rw [hr] at hmB
   simp only [Bool.false_and] at hmB
   obtain ⟨e1, e2⟩ := hno hmB
   rw [e1, e2, hmB]
   clear hno hmB e1 e2 hr
   have bc5 : decide (k.role > 0) = true := decide_eq_true c5.1
   have bc6 : (k.lev != 1) = true := by simpa using c5.2
   clear c1 c2 c3 c4 c5
   go_enter Tryz.func97, Tryz.ntmps97
   go_wp2_with fail
   refine (hfd _ y0).mono ?_; rintro e w2 ⟨rfl, y2⟩
   have kb2 := kb0.chg_ y2 (by simp)
   have z2 := y0.trans y2 (by simp)
   clear hfd x0 x1 x2
   obtain ⟨kb, hkb⟩ : ∃ kb, w.heap.size = kb := ⟨_, rfl⟩
   rw [hkb] at kb2 hkl ⊢
   have hkb2 := Nat.lt_of_lt_of_le hkl y2.size
   clear y2 kb0 hkl
   clear y0
   replace hkb := Lib.hid hkb
   have x0 := kb2.cell 0; have x1 := kb2.cell 1; have x2 := kb2.cell 2
   simp only [qA, qZ, qS] at x0 x1 x2
   go_wp2_with fail
   go_ret2
   exact RGo.same h z2 _
  have hr : k.right = true := by unfold Ky.right; exact decide_eq_true (by omega)
  rw [hr, Bool.true_and] at hmB
  have hlast : ∀ w' (y : Chg [] w w'), Calls Tryz.prog 134 #[.pointer (some ⟨fp, 0, none⟩)] w' fun e w2 => e = .returned (.tuple #[.int .i64 (takeV s.fr), .bool (takeB s.fr)]) ∧ Chg FS w' w2 ∧ RAt w2 FS fp a m s.fr.dropLast := fun w' y => RTake_at FS fp a m s.fr w' (h.new y).hf (by have := ok.cnt; have := ok.le; have := ok.n256; omega)
  have hf1 := fun w' (y : Chg [] w w') => (h.new y).st.cell 1
  simp only [qA, qZ, qS] at hf1
  cases c6 : decide (k.role > 0)
  ·clear c1 c2 c3 c4 c5
   cases hem : s.fr.isEmpty
   ·have htb : takeB s.fr = true := by unfold takeB; rw [hem]; rfl
    rw [htb] at hlast
    go_enter Tryz.func97, Tryz.ntmps97
    go_wp2_with fail
    refine (hfd _ y0).mono ?_; rintro e w2 ⟨rfl, y2⟩
    have kb2 := kb0.chg_ y2 (by simp)
    have z2 := y0.trans y2 (by simp)
    clear hfd x0 x1 x2
    obtain ⟨kb, hkb⟩ : ∃ kb, w.heap.size = kb := ⟨_, rfl⟩
    rw [hkb] at kb2 hkl ⊢
    have hkb2 := Nat.lt_of_lt_of_le hkl y2.size
    clear y2 kb0 hkl
    clear y0
    replace hkb := Lib.hid hkb
    have x0 := kb2.cell 0; have x1 := kb2.cell 1; have x2 := kb2.cell 2
    simp only [qA, qZ, qS] at x0 x1 x2
    have q1 := hf1 _ z2
    go_wp2_with fail
    refine (hlast _ z2).mono ?_; rintro e w3 ⟨rfl, y3, hf3⟩
    have y03 : Chg FS w w3 := (z2.weak (by simp)).trans y3 (fun _ _ h => h)
    have hFS := h.hf.lt
    have kb3 := kb2.chg_ y3 (fun hm => by have := hFS _ hm; have := hkb.out; omega)
    have h3 := (h.new z2).frees y3 hf3
    have hmB' : makeB s k = true := by rw [hmB, hem]; rfl
    (try rw [hmB'])
    have hme := make_empty ok hmB'
    have hmt := Lib.hid hmB'
    have hms : makeS n s k = ⟨s.L ++ [⟨s.fr.getLastD 0, k, List.replicate 8 Slt.no⟩], s.fr.dropLast, fillW n s.W (s.fr.getLastD 0) (zeros 8)⟩ := by unfold makeS; rw [if_pos hmB']
    have hmv : makeV s k = s.fr.getLastD 0 := by unfold makeV; rw [if_pos hmB']
    obtain ⟨f, hf⟩ : ∃ f, s.fr.getLastD 0 = f := ⟨_, rfl⟩
    rw [show takeV s.fr = s.fr.getLastD 0 from rfl, hf]
    rw [hf] at hme hms hmv
    obtain ⟨K, hK0, hKs, hK8⟩ : ∃ K : Nat → List Int, K 0 = s.W ∧ (∀ j : Nat, K (j + 1) = setW n (K j) f j 0) ∧ (⟨s.L ++ [⟨f, k, List.replicate 8 Slt.no⟩], s.fr.dropLast, K 8⟩ : Sr) = makeS n s k := by
     refine ⟨fun j => (emptyS n ⟨s.L ++ [⟨f, k, List.replicate 8 Slt.no⟩], s.fr.dropLast, s.W⟩ f j).W, rfl, fun _ => rfl, ?_⟩
     show (⟨_, _, (emptyS n _ f 8).W⟩ : Sr) = _
     rw [hme, hms]
    have h3 : RStX w3 q rp rb fp n a m ⟨s.L, s.fr.dropLast, K 0⟩ LA lc R FS := by rw [hK0]; exact h3
    replace hK8 := Lib.hid hK8; replace hmv := Lib.hid hmv
    have hst3 := h3.st
    have hRl : (rowsR s.L R).length = s.L.length := by unfold rowsR; rw [List.length_zipWith, h.len]; omega
    have hNl := ok.le256
    clear hf hme hms hK0 hmB hmB' htb hem hpo hno ok hlast hf1 hf3 y3 z2 kb2 hkb2 hkb x0 x1 x2 hFS hr
    go_upto_region 7 with fail
    refine wp_region_noPanic ?_
    refine late_region (S := (fun w' => Chg [] w3 w')) (Z := 15) (by kernel_rfl) ((Chg.refl [] w3).drew) (fun hHeld => ?_)
    have H : SepC w3 w3.drew [] := (SepC.nil w3).new (Chg.refl [] w3).drew
    have hmk := mk_slots
    clear hHeld
    generalize w3.drew = u at *
    have hHeld := H.1
    (refine lk 0 58 ?_ ?_ ?_; rotate_left; · (intro w hSw; go_simp; (try with_reducible rfl)))
    (try simp only [Act.put, qI, qO, qU])
    (refine lk 2 60 ?_ ?_ ?_; rotate_left; · (intro w hSw; go_simp; (try with_reducible rfl)))
    (try simp only [Act.put, qI, qO, qU])
    (refine lk 3 61 ?_ ?_ ?_; rotate_left; · (intro w hSw; go_simp; (try with_reducible rfl)))
    (try simp only [Act.put, qI, qO, qU])
    (refine lk 4 62 ?_ ?_ ?_; rotate_left; · (intro w hSw; go_simp; (try with_reducible rfl)))
    (try simp only [Act.put, qI, qO, qU])
    (refine lk 5 63 ?_ ?_ ?_; rotate_left; · (intro w hSw; (try dsimp only at hSw); have b_ := (hst3.chg_ hSw (by simp)).cell 2; simp only [qA, qZ, qS] at b_; go_simp; (try with_reducible rfl)))
    (try simp only [Act.put, qI, qO, qU])
    (refine lk 7 65 ?_ ?_ ?_; rotate_left; · (intro w hSw; go_simp; (try with_reducible rfl)))
    (try simp only [Act.put, qI, qO, qU])
    (refine lk 8 66 ?_ ?_ ?_; rotate_left; · (intro w hSw; (try dsimp only at hSw); have b_ := kb3.chg_ hSw (by simp); have d0 := b_.cell 0; have d1 := b_.cell 1; have d2 := b_.cell 2; simp only [qA, qZ, qS] at d0 d1 d2; go_simp; (try with_reducible rfl)))
    (try simp only [Act.put, qI, qO, qU])
    refine late_ready (rs := [1, 9]) (by kernel_rfl) (by simp) ?_; refine AllLate.cons (o := _) rfl (fun K hK => ?_) (AllLate.cons (o := _) rfl (fun K hK => ?_) AllLate.nil)
    ·go_simp
     replace H : SepC w3 (u.alloc (.cells #[] 115)) (blkT u.heap.size 115 (rpE.all []).toArray :: _) := H.alloc _ _
     replace H := H.litOwn (c := 0) (by simp) (by simp)
     refine hK.out _ _ (fun _ => by (try dsimp only); exact H.1) ?_
     clear hK K
     (try simp only [Act.put, qI, qO, qU])
     clear hHeld
     generalize u.alloc (.cells #[] 115) = u' at *
     generalize u.heap.size = ga at *
     clear u
     obtain ⟨u, hu⟩ : ∃ u, u' = u := ⟨_, rfl⟩
     rw [hu] at H ⊢
     clear hu u'
     have hHeld := H.1
     refine late_ready (rs := [6, 9]) (by kernel_rfl) (by simp) ?_; refine AllLate.cons (o := _) rfl (fun K hK => ?_) (AllLate.cons (o := _) rfl (fun K hK => ?_) AllLate.nil)
     ·refine step_append_G (E := rpE) (some 64) rfl rfl (.tmp 59) (.tmp 63) 110 rfl 115 (.agg #[.int .i64 0, .int .i64 0, .int .i64 0, .int .i64 0, .slice none 0 0]) 56 Tryz.underlying110 Page14_info rfl (.slice (some ⟨ga, 0, none⟩) 0 0) [] rfl (H.pick 0 rfl).own LA s.L.length lc (rowsR s.L R) rfl ((h3.hl.new H.1).src) hRl (by simp; omega) (fun v' u' ho5 hc5 hb5 => ?_)
      rw [List.nil_append] at ho5
      obtain ⟨A5, c5, rfl, hx1, hx2⟩ := ho5.form
      clear hx1 hx2
      rw [hRl] at ho5 hb5 ⊢
      replace H := (H.pick 0 rfl).app ho5 hc5 hb5
      clear ho5 hc5 hb5
      refine hK.out _ _ (fun _ => by (try dsimp only); exact H.1) ?_
      clear hK K
      (try simp only [Act.put, qI, qO, qU])
      clear hHeld u
      obtain ⟨u, hu⟩ : ∃ u, u' = u := ⟨_, rfl⟩
      rw [hu] at H ⊢
      clear hu u'
      have hHeld := H.1
      refine lrdy 9 fun K hK => ?_
      go_simp
      replace H : SepC w3 (u.alloc (.cells slots8.toArray 72)) (blkT u.heap.size 72 (sltE.all (List.replicate 8 Slt.no)).toArray :: _) := H.alloc _ _
      replace H := H.litOwn (c := 8) (by simp) (by simp)
      refine hK.out _ _ (fun _ => by (try dsimp only); exact H.1) ?_
      clear hK K
      (try simp only [Act.put, qI, qO, qU])
      clear hHeld
      generalize u.alloc (.cells slots8.toArray 72) = u' at *
      generalize u.heap.size = gm at *
      clear u
      obtain ⟨u, hu⟩ : ∃ u, u' = u := ⟨_, rfl⟩
      rw [hu] at H ⊢
      clear hu u'
      have hHeld := H.1
      (refine lk 10 68 ?_ ?_ ?_; rotate_left; · (intro w hSw; go_simp; (try with_reducible rfl)))
      (try simp only [Act.put, qI, qO, qU])
      refine lrdy 11 fun K hK => ?_
      go_simp
      replace H : SepC w3 (u.alloc (.cells #[.int .i64 f, .int .i64 k.g, .int .i64 k.lev, .int .i64 k.role, .slice (some ⟨gm, 0, none⟩) 8 8] 115)) (blkT u.heap.size 115 (rpE.all [(f, k, (some ⟨gm, 0, none⟩, 8))]).toArray :: _) := H.alloc _ _
      replace H := H.litOwn (c := 1) (by simp) (by simp)
      refine hK.out _ _ (fun _ => by (try dsimp only); exact H.1) ?_
      clear hK K
      (try simp only [Act.put, qI, qO, qU])
      clear hHeld
      generalize u.alloc (.cells #[.int .i64 f, .int .i64 k.g, .int .i64 k.lev, .int .i64 k.role, .slice (some ⟨gm, 0, none⟩) 8 8] 115) = u' at *
      generalize u.heap.size = gg at *
      clear u
      obtain ⟨u, hu⟩ : ∃ u, u' = u := ⟨_, rfl⟩
      rw [hu] at H ⊢
      clear hu u'
      have hHeld := H.1
      refine lrdy 12 fun K hK => ?_
      refine step_append_G (E := rpE) (some 70) rfl rfl (.tmp 64) (.tmp 69) 110 rfl 115 (.agg #[.int .i64 0, .int .i64 0, .int .i64 0, .int .i64 0, .slice none 0 0]) 56 Tryz.underlying110 Page14_info rfl (.slice A5 s.L.length c5) (rowsR s.L R) rfl (H.pick 2 rfl).own (some ⟨gg, 0, none⟩) 1 1 [(f, k, (some ⟨gm, 0, none⟩, 8))] rfl ((H.pick 0 rfl).own.src) rfl (by rw [hRl]; omega) (fun v' u' ho5 hc5 hb5 => ?_)
      obtain ⟨A6, c6, rfl, hx1, hx2⟩ := ho5.form
      clear hx1 hx2
      have hl6 : (rowsR s.L R ++ [(f, k, ((some ⟨gm, 0, none⟩ : Option Addr), 8))]).length = s.L.length + 1 := by rw [List.length_append, hRl]; rfl
      rw [hl6] at ho5 hb5 ⊢
      replace H := (H.pick 2 rfl).app ho5 hc5 hb5
      clear ho5 hc5 hb5 hl6
      refine hK.out _ _ (fun _ => by (try dsimp only); exact H.1) ?_
      clear hK K
      (try simp only [Act.put, qI, qO, qU])
      clear hHeld u
      have hqu := hst3.chg_ H.1 (by simp)
      have c2 := hqu.cell 2; have f2 := hqu.frozen 2
      simp only [qA, qZ, qS] at c2
      refine lrdy 13 fun K hK => ?_
      go_simp
      refine hK.out _ _ (fun _ => by (try dsimp only); exact H.1) ?_
      clear hK K
      (try simp only [Act.put, qI, qO, qU])
      refine lrdy 14 fun K hK => ?_
      go_simp
      refine hK.out _ _ (fun _ => by (try dsimp only); exact H.1) ?_
      clear hK K
      (try simp only [Act.put, qI, qO, qU])
      refine lrdy 15 fun K hK => ?_
      go_simp
      refine hK.out _ _ (fun e => absurd rfl e) ?_
      clear hK K
      (try simp only [Act.put, qI, qO, qU])
      refine late_done (by kernel_rfl) ?_ _
      refine NoPanic.normal ?_
      have hmore := (h3.new H.1).more (p := ⟨f, k, List.replicate 8 Slt.no⟩) (r := (some ⟨gm, 0, none⟩, 8)) (H.pick 0 rfl).own (H.pick 2 rfl).own
      have hA6 : ∀ g ∈ lB A6, w.heap.size ≤ g := fun g hg => by
       obtain ⟨S_, ⟨e_, _⟩, hS_⟩ := H.fst
       have := hS_ g (by rw [e_]; cases A6 <;> exact hg)
       have := y03.size; omega
      have hgm : w.heap.size ≤ gm := by
       obtain ⟨S_, ⟨e_, _⟩, hS_⟩ := (H.pick 2 rfl).fst
       have := hS_ gm (by rw [e_]; simp [Value.ownBlock])
       have := y03.size; omega
      have hyv : Chg (rb :: q :: FS) w (u'.setCell ⟨q, 2, none⟩ (.slice A6 (s.L.length + 1) c6)) := ((y03.weak (fun i_ _ hi_ => by simp [hi_])).trans H.1 (by simp)).setCell (p := ⟨q, 2, none⟩) (by simp) _
      clear hqu c2 f2 H h3 hst3 kb3 hRl
      generalize u'.setCell ⟨q, 2, none⟩ (.slice A6 (s.L.length + 1) c6) = v0 at *
      clear u'
      go_wp2_with fail
      go_loopw [10] (fun s10 wr => ∃ j : Nat, j ≤ 8 ∧ s10 = .int .i64 j ∧ RStX wr q rp rb fp n a m ⟨s.L ++ [⟨f, k, List.replicate 8 Slt.no⟩], s.fr.dropLast, K j⟩ A6 c6 (R ++ [(some ⟨gm, 0, none⟩, 8)]) FS ∧ Chg (rb :: q :: FS) w wr) (fun s10 _ => 8 - (intOf s10).toNat)
      case atStart => exact ⟨0, by omega, rfl, hmore, hyv⟩
      obtain ⟨j, hj, rfl, hr, y⟩ := hrel
      clear hmore hyv
      by_cases hlt : j < 8
      ·have hjz : (j : Int) < 8 := by omega
       have hset := RSet_at rp rb n (K j) f j 0 wr hr.hm
       rw [← hKs] at hset
       have c0 := hr.st.cell 0
       simp only [qA, qZ] at c0
       go_wp2_with fail
       refine hset.mono ?_; rintro e w9 ⟨rfl, y9, hm9⟩
       have hr9 := hr.words y9 hm9
       clear hset c0 hr
       go_wp2_with fail
       go_roundw
       case rel => exact ⟨j + 1, by omega, by go_num, hr9, y.trans y9 (fun i_ _ hi_ => by simp only [List.mem_singleton] at hi_; subst hi_; simp)⟩
       case measure => simp [intOf]; omega
      obtain rfl : j = 8 := by omega
      have hjz : ¬ ((8 : Nat) : Int) < 8 := by omega
      go_wp2_with fail
      go_ret2
      refine ⟨by (first | (rw [hmv.out, hmt.out]; rfl) | (rw [hmv.out]; rfl)), A6, c6, _, FS, by rw [hK8.out] at hr; exact hr, y.weak (fun i_ _ hi_ => by simp only [List.mem_cons, List.mem_append] at hi_ ⊢; rcases hi_ with h_ | h_ | h_ <;> simp [h_]), fun g_ hg_ => ?_, fun r_ hr_ => ?_⟩
      ·rw [List.mem_append] at hg_
       rcases hg_ with h_ | h_
       ·exact .inr (hA6 g_ h_)
       exact .inl (by simp [h_])
      rw [List.mem_append] at hr_
      rcases hr_ with h_ | h_
      ·exact .inl h_
      rw [List.mem_singleton] at h_; subst h_; exact .inr ⟨gm, rfl, hgm⟩
     go_simp
     replace H : SepC w3 (u.alloc (.cells slots8.toArray 72)) (blkT u.heap.size 72 (sltE.all (List.replicate 8 Slt.no)).toArray :: _) := H.alloc _ _
     replace H := H.litOwn (c := 8) (by simp) (by simp)
     refine hK.out _ _ (fun _ => by (try dsimp only); exact H.1) ?_
     clear hK K
     (try simp only [Act.put, qI, qO, qU])
     clear hHeld
     generalize u.alloc (.cells slots8.toArray 72) = u' at *
     generalize u.heap.size = gm at *
     clear u
     obtain ⟨u, hu⟩ : ∃ u, u' = u := ⟨_, rfl⟩
     rw [hu] at H ⊢
     clear hu u'
     have hHeld := H.1
     (refine lk 10 68 ?_ ?_ ?_; rotate_left; · (intro w hSw; go_simp; (try with_reducible rfl)))
     (try simp only [Act.put, qI, qO, qU])
     refine late_ready (rs := [6, 11]) (by kernel_rfl) (by simp) ?_; refine AllLate.cons (o := _) rfl (fun K hK => ?_) (AllLate.cons (o := _) rfl (fun K hK => ?_) AllLate.nil)
     ·refine step_append_G (E := rpE) (some 64) rfl rfl (.tmp 59) (.tmp 63) 110 rfl 115 (.agg #[.int .i64 0, .int .i64 0, .int .i64 0, .int .i64 0, .slice none 0 0]) 56 Tryz.underlying110 Page14_info rfl (.slice (some ⟨ga, 0, none⟩) 0 0) [] rfl (H.pick 1 rfl).own LA s.L.length lc (rowsR s.L R) rfl ((h3.hl.new H.1).src) hRl (by simp; omega) (fun v' u' ho5 hc5 hb5 => ?_)
      rw [List.nil_append] at ho5
      obtain ⟨A5, c5, rfl, hx1, hx2⟩ := ho5.form
      clear hx1 hx2
      rw [hRl] at ho5 hb5 ⊢
      replace H := (H.pick 1 rfl).app ho5 hc5 hb5
      clear ho5 hc5 hb5
      refine hK.out _ _ (fun _ => by (try dsimp only); exact H.1) ?_
      clear hK K
      (try simp only [Act.put, qI, qO, qU])
      clear hHeld u
      obtain ⟨u, hu⟩ : ∃ u, u' = u := ⟨_, rfl⟩
      rw [hu] at H ⊢
      clear hu u'
      have hHeld := H.1
      refine lrdy 11 fun K hK => ?_
      go_simp
      replace H : SepC w3 (u.alloc (.cells #[.int .i64 f, .int .i64 k.g, .int .i64 k.lev, .int .i64 k.role, .slice (some ⟨gm, 0, none⟩) 8 8] 115)) (blkT u.heap.size 115 (rpE.all [(f, k, (some ⟨gm, 0, none⟩, 8))]).toArray :: _) := H.alloc _ _
      replace H := H.litOwn (c := 1) (by simp) (by simp)
      refine hK.out _ _ (fun _ => by (try dsimp only); exact H.1) ?_
      clear hK K
      (try simp only [Act.put, qI, qO, qU])
      clear hHeld
      generalize u.alloc (.cells #[.int .i64 f, .int .i64 k.g, .int .i64 k.lev, .int .i64 k.role, .slice (some ⟨gm, 0, none⟩) 8 8] 115) = u' at *
      generalize u.heap.size = gg at *
      clear u
      obtain ⟨u, hu⟩ : ∃ u, u' = u := ⟨_, rfl⟩
      rw [hu] at H ⊢
      clear hu u'
      have hHeld := H.1
      refine lrdy 12 fun K hK => ?_
      refine step_append_G (E := rpE) (some 70) rfl rfl (.tmp 64) (.tmp 69) 110 rfl 115 (.agg #[.int .i64 0, .int .i64 0, .int .i64 0, .int .i64 0, .slice none 0 0]) 56 Tryz.underlying110 Page14_info rfl (.slice A5 s.L.length c5) (rowsR s.L R) rfl (H.pick 1 rfl).own (some ⟨gg, 0, none⟩) 1 1 [(f, k, (some ⟨gm, 0, none⟩, 8))] rfl ((H.pick 0 rfl).own.src) rfl (by rw [hRl]; omega) (fun v' u' ho5 hc5 hb5 => ?_)
      obtain ⟨A6, c6, rfl, hx1, hx2⟩ := ho5.form
      clear hx1 hx2
      have hl6 : (rowsR s.L R ++ [(f, k, ((some ⟨gm, 0, none⟩ : Option Addr), 8))]).length = s.L.length + 1 := by rw [List.length_append, hRl]; rfl
      rw [hl6] at ho5 hb5 ⊢
      replace H := (H.pick 1 rfl).app ho5 hc5 hb5
      clear ho5 hc5 hb5 hl6
      refine hK.out _ _ (fun _ => by (try dsimp only); exact H.1) ?_
      clear hK K
      (try simp only [Act.put, qI, qO, qU])
      clear hHeld u
      have hqu := hst3.chg_ H.1 (by simp)
      have c2 := hqu.cell 2; have f2 := hqu.frozen 2
      simp only [qA, qZ, qS] at c2
      refine lrdy 13 fun K hK => ?_
      go_simp
      refine hK.out _ _ (fun _ => by (try dsimp only); exact H.1) ?_
      clear hK K
      (try simp only [Act.put, qI, qO, qU])
      refine lrdy 14 fun K hK => ?_
      go_simp
      refine hK.out _ _ (fun _ => by (try dsimp only); exact H.1) ?_
      clear hK K
      (try simp only [Act.put, qI, qO, qU])
      refine lrdy 15 fun K hK => ?_
      go_simp
      refine hK.out _ _ (fun e => absurd rfl e) ?_
      clear hK K
      (try simp only [Act.put, qI, qO, qU])
      refine late_done (by kernel_rfl) ?_ _
      refine NoPanic.normal ?_
      have hmore := (h3.new H.1).more (p := ⟨f, k, List.replicate 8 Slt.no⟩) (r := (some ⟨gm, 0, none⟩, 8)) (H.pick 0 rfl).own (H.pick 2 rfl).own
      have hA6 : ∀ g ∈ lB A6, w.heap.size ≤ g := fun g hg => by
       obtain ⟨S_, ⟨e_, _⟩, hS_⟩ := H.fst
       have := hS_ g (by rw [e_]; cases A6 <;> exact hg)
       have := y03.size; omega
      have hgm : w.heap.size ≤ gm := by
       obtain ⟨S_, ⟨e_, _⟩, hS_⟩ := (H.pick 2 rfl).fst
       have := hS_ gm (by rw [e_]; simp [Value.ownBlock])
       have := y03.size; omega
      have hyv : Chg (rb :: q :: FS) w (u'.setCell ⟨q, 2, none⟩ (.slice A6 (s.L.length + 1) c6)) := ((y03.weak (fun i_ _ hi_ => by simp [hi_])).trans H.1 (by simp)).setCell (p := ⟨q, 2, none⟩) (by simp) _
      clear hqu c2 f2 H h3 hst3 kb3 hRl
      generalize u'.setCell ⟨q, 2, none⟩ (.slice A6 (s.L.length + 1) c6) = v0 at *
      clear u'
      go_wp2_with fail
      go_loopw [10] (fun s10 wr => ∃ j : Nat, j ≤ 8 ∧ s10 = .int .i64 j ∧ RStX wr q rp rb fp n a m ⟨s.L ++ [⟨f, k, List.replicate 8 Slt.no⟩], s.fr.dropLast, K j⟩ A6 c6 (R ++ [(some ⟨gm, 0, none⟩, 8)]) FS ∧ Chg (rb :: q :: FS) w wr) (fun s10 _ => 8 - (intOf s10).toNat)
      case atStart => exact ⟨0, by omega, rfl, hmore, hyv⟩
      obtain ⟨j, hj, rfl, hr, y⟩ := hrel
      clear hmore hyv
      by_cases hlt : j < 8
      ·have hjz : (j : Int) < 8 := by omega
       have hset := RSet_at rp rb n (K j) f j 0 wr hr.hm
       rw [← hKs] at hset
       have c0 := hr.st.cell 0
       simp only [qA, qZ] at c0
       go_wp2_with fail
       refine hset.mono ?_; rintro e w9 ⟨rfl, y9, hm9⟩
       have hr9 := hr.words y9 hm9
       clear hset c0 hr
       go_wp2_with fail
       go_roundw
       case rel => exact ⟨j + 1, by omega, by go_num, hr9, y.trans y9 (fun i_ _ hi_ => by simp only [List.mem_singleton] at hi_; subst hi_; simp)⟩
       case measure => simp [intOf]; omega
      obtain rfl : j = 8 := by omega
      have hjz : ¬ ((8 : Nat) : Int) < 8 := by omega
      go_wp2_with fail
      go_ret2
      refine ⟨by (first | (rw [hmv.out, hmt.out]; rfl) | (rw [hmv.out]; rfl)), A6, c6, _, FS, by rw [hK8.out] at hr; exact hr, y.weak (fun i_ _ hi_ => by simp only [List.mem_cons, List.mem_append] at hi_ ⊢; rcases hi_ with h_ | h_ | h_ <;> simp [h_]), fun g_ hg_ => ?_, fun r_ hr_ => ?_⟩
      ·rw [List.mem_append] at hg_
       rcases hg_ with h_ | h_
       ·exact .inr (hA6 g_ h_)
       exact .inl (by simp [h_])
      rw [List.mem_append] at hr_
      rcases hr_ with h_ | h_
      ·exact .inl h_
      rw [List.mem_singleton] at h_; subst h_; exact .inr ⟨gm, rfl, hgm⟩
     go_simp
     replace H : SepC w3 (u.alloc (.cells #[.int .i64 f, .int .i64 k.g, .int .i64 k.lev, .int .i64 k.role, .slice (some ⟨gm, 0, none⟩) 8 8] 115)) (blkT u.heap.size 115 (rpE.all [(f, k, (some ⟨gm, 0, none⟩, 8))]).toArray :: _) := H.alloc _ _
     replace H := H.litOwn (c := 1) (by simp) (by simp)
     refine hK.out _ _ (fun _ => by (try dsimp only); exact H.1) ?_
     clear hK K
     (try simp only [Act.put, qI, qO, qU])
     clear hHeld
     generalize u.alloc (.cells #[.int .i64 f, .int .i64 k.g, .int .i64 k.lev, .int .i64 k.role, .slice (some ⟨gm, 0, none⟩) 8 8] 115) = u' at *
     generalize u.heap.size = gg at *
     clear u
     obtain ⟨u, hu⟩ : ∃ u, u' = u := ⟨_, rfl⟩
     rw [hu] at H ⊢
     clear hu u'
     have hHeld := H.1
     refine lrdy 6 fun K hK => ?_
     refine step_append_G (E := rpE) (some 64) rfl rfl (.tmp 59) (.tmp 63) 110 rfl 115 (.agg #[.int .i64 0, .int .i64 0, .int .i64 0, .int .i64 0, .slice none 0 0]) 56 Tryz.underlying110 Page14_info rfl (.slice (some ⟨ga, 0, none⟩) 0 0) [] rfl (H.pick 2 rfl).own LA s.L.length lc (rowsR s.L R) rfl ((h3.hl.new H.1).src) hRl (by simp; omega) (fun v' u' ho5 hc5 hb5 => ?_)
     rw [List.nil_append] at ho5
     obtain ⟨A5, c5, rfl, hx1, hx2⟩ := ho5.form
     clear hx1 hx2
     rw [hRl] at ho5 hb5 ⊢
     replace H := (H.pick 2 rfl).app ho5 hc5 hb5
     clear ho5 hc5 hb5
     refine hK.out _ _ (fun _ => by (try dsimp only); exact H.1) ?_
     clear hK K
     (try simp only [Act.put, qI, qO, qU])
     clear hHeld u
     obtain ⟨u, hu⟩ : ∃ u, u' = u := ⟨_, rfl⟩
     rw [hu] at H ⊢
     clear hu u'
     have hHeld := H.1
     refine lrdy 12 fun K hK => ?_
     refine step_append_G (E := rpE) (some 70) rfl rfl (.tmp 64) (.tmp 69) 110 rfl 115 (.agg #[.int .i64 0, .int .i64 0, .int .i64 0, .int .i64 0, .slice none 0 0]) 56 Tryz.underlying110 Page14_info rfl (.slice A5 s.L.length c5) (rowsR s.L R) rfl (H.pick 0 rfl).own (some ⟨gg, 0, none⟩) 1 1 [(f, k, (some ⟨gm, 0, none⟩, 8))] rfl ((H.pick 1 rfl).own.src) rfl (by rw [hRl]; omega) (fun v' u' ho5 hc5 hb5 => ?_)
     obtain ⟨A6, c6, rfl, hx1, hx2⟩ := ho5.form
     clear hx1 hx2
     have hl6 : (rowsR s.L R ++ [(f, k, ((some ⟨gm, 0, none⟩ : Option Addr), 8))]).length = s.L.length + 1 := by rw [List.length_append, hRl]; rfl
     rw [hl6] at ho5 hb5 ⊢
     replace H := (H.pick 0 rfl).app ho5 hc5 hb5
     clear ho5 hc5 hb5 hl6
     refine hK.out _ _ (fun _ => by (try dsimp only); exact H.1) ?_
     clear hK K
     (try simp only [Act.put, qI, qO, qU])
     clear hHeld u
     have hqu := hst3.chg_ H.1 (by simp)
     have c2 := hqu.cell 2; have f2 := hqu.frozen 2
     simp only [qA, qZ, qS] at c2
     refine lrdy 13 fun K hK => ?_
     go_simp
     refine hK.out _ _ (fun _ => by (try dsimp only); exact H.1) ?_
     clear hK K
     (try simp only [Act.put, qI, qO, qU])
     refine lrdy 14 fun K hK => ?_
     go_simp
     refine hK.out _ _ (fun _ => by (try dsimp only); exact H.1) ?_
     clear hK K
     (try simp only [Act.put, qI, qO, qU])
     refine lrdy 15 fun K hK => ?_
     go_simp
     refine hK.out _ _ (fun e => absurd rfl e) ?_
     clear hK K
     (try simp only [Act.put, qI, qO, qU])
     refine late_done (by kernel_rfl) ?_ _
     refine NoPanic.normal ?_
     have hmore := (h3.new H.1).more (p := ⟨f, k, List.replicate 8 Slt.no⟩) (r := (some ⟨gm, 0, none⟩, 8)) (H.pick 0 rfl).own (H.pick 2 rfl).own
     have hA6 : ∀ g ∈ lB A6, w.heap.size ≤ g := fun g hg => by
      obtain ⟨S_, ⟨e_, _⟩, hS_⟩ := H.fst
      have := hS_ g (by rw [e_]; cases A6 <;> exact hg)
      have := y03.size; omega
     have hgm : w.heap.size ≤ gm := by
      obtain ⟨S_, ⟨e_, _⟩, hS_⟩ := (H.pick 2 rfl).fst
      have := hS_ gm (by rw [e_]; simp [Value.ownBlock])
      have := y03.size; omega
     have hyv : Chg (rb :: q :: FS) w (u'.setCell ⟨q, 2, none⟩ (.slice A6 (s.L.length + 1) c6)) := ((y03.weak (fun i_ _ hi_ => by simp [hi_])).trans H.1 (by simp)).setCell (p := ⟨q, 2, none⟩) (by simp) _
     clear hqu c2 f2 H h3 hst3 kb3 hRl
     generalize u'.setCell ⟨q, 2, none⟩ (.slice A6 (s.L.length + 1) c6) = v0 at *
     clear u'
     go_wp2_with fail
     go_loopw [10] (fun s10 wr => ∃ j : Nat, j ≤ 8 ∧ s10 = .int .i64 j ∧ RStX wr q rp rb fp n a m ⟨s.L ++ [⟨f, k, List.replicate 8 Slt.no⟩], s.fr.dropLast, K j⟩ A6 c6 (R ++ [(some ⟨gm, 0, none⟩, 8)]) FS ∧ Chg (rb :: q :: FS) w wr) (fun s10 _ => 8 - (intOf s10).toNat)
     case atStart => exact ⟨0, by omega, rfl, hmore, hyv⟩
     obtain ⟨j, hj, rfl, hr, y⟩ := hrel
     clear hmore hyv
     by_cases hlt : j < 8
     ·have hjz : (j : Int) < 8 := by omega
      have hset := RSet_at rp rb n (K j) f j 0 wr hr.hm
      rw [← hKs] at hset
      have c0 := hr.st.cell 0
      simp only [qA, qZ] at c0
      go_wp2_with fail
      refine hset.mono ?_; rintro e w9 ⟨rfl, y9, hm9⟩
      have hr9 := hr.words y9 hm9
      clear hset c0 hr
      go_wp2_with fail
      go_roundw
      case rel => exact ⟨j + 1, by omega, by go_num, hr9, y.trans y9 (fun i_ _ hi_ => by simp only [List.mem_singleton] at hi_; subst hi_; simp)⟩
      case measure => simp [intOf]; omega
     obtain rfl : j = 8 := by omega
     have hjz : ¬ ((8 : Nat) : Int) < 8 := by omega
     go_wp2_with fail
     go_ret2
     refine ⟨by (first | (rw [hmv.out, hmt.out]; rfl) | (rw [hmv.out]; rfl)), A6, c6, _, FS, by rw [hK8.out] at hr; exact hr, y.weak (fun i_ _ hi_ => by simp only [List.mem_cons, List.mem_append] at hi_ ⊢; rcases hi_ with h_ | h_ | h_ <;> simp [h_]), fun g_ hg_ => ?_, fun r_ hr_ => ?_⟩
     ·rw [List.mem_append] at hg_
      rcases hg_ with h_ | h_
      ·exact .inr (hA6 g_ h_)
      exact .inl (by simp [h_])
     rw [List.mem_append] at hr_
     rcases hr_ with h_ | h_
     ·exact .inl h_
     rw [List.mem_singleton] at h_; subst h_; exact .inr ⟨gm, rfl, hgm⟩
    go_simp
    replace H : SepC w3 (u.alloc (.cells slots8.toArray 72)) (blkT u.heap.size 72 (sltE.all (List.replicate 8 Slt.no)).toArray :: _) := H.alloc _ _
    replace H := H.litOwn (c := 8) (by simp) (by simp)
    refine hK.out _ _ (fun _ => by (try dsimp only); exact H.1) ?_
    clear hK K
    (try simp only [Act.put, qI, qO, qU])
    clear hHeld
    generalize u.alloc (.cells slots8.toArray 72) = u' at *
    generalize u.heap.size = gm at *
    clear u
    obtain ⟨u, hu⟩ : ∃ u, u' = u := ⟨_, rfl⟩
    rw [hu] at H ⊢
    clear hu u'
    have hHeld := H.1
    (refine lk 10 68 ?_ ?_ ?_; rotate_left; · (intro w hSw; go_simp; (try with_reducible rfl)))
    (try simp only [Act.put, qI, qO, qU])
    refine late_ready (rs := [1, 11]) (by kernel_rfl) (by simp) ?_; refine AllLate.cons (o := _) rfl (fun K hK => ?_) (AllLate.cons (o := _) rfl (fun K hK => ?_) AllLate.nil)
    ·go_simp
     replace H : SepC w3 (u.alloc (.cells #[] 115)) (blkT u.heap.size 115 (rpE.all []).toArray :: _) := H.alloc _ _
     replace H := H.litOwn (c := 0) (by simp) (by simp)
     refine hK.out _ _ (fun _ => by (try dsimp only); exact H.1) ?_
     clear hK K
     (try simp only [Act.put, qI, qO, qU])
     clear hHeld
     generalize u.alloc (.cells #[] 115) = u' at *
     generalize u.heap.size = ga at *
     clear u
     obtain ⟨u, hu⟩ : ∃ u, u' = u := ⟨_, rfl⟩
     rw [hu] at H ⊢
     clear hu u'
     have hHeld := H.1
     refine late_ready (rs := [6, 11]) (by kernel_rfl) (by simp) ?_; refine AllLate.cons (o := _) rfl (fun K hK => ?_) (AllLate.cons (o := _) rfl (fun K hK => ?_) AllLate.nil)
     ·refine step_append_G (E := rpE) (some 64) rfl rfl (.tmp 59) (.tmp 63) 110 rfl 115 (.agg #[.int .i64 0, .int .i64 0, .int .i64 0, .int .i64 0, .slice none 0 0]) 56 Tryz.underlying110 Page14_info rfl (.slice (some ⟨ga, 0, none⟩) 0 0) [] rfl (H.pick 0 rfl).own LA s.L.length lc (rowsR s.L R) rfl ((h3.hl.new H.1).src) hRl (by simp; omega) (fun v' u' ho5 hc5 hb5 => ?_)
      rw [List.nil_append] at ho5
      obtain ⟨A5, c5, rfl, hx1, hx2⟩ := ho5.form
      clear hx1 hx2
      rw [hRl] at ho5 hb5 ⊢
      replace H := (H.pick 0 rfl).app ho5 hc5 hb5
      clear ho5 hc5 hb5
      refine hK.out _ _ (fun _ => by (try dsimp only); exact H.1) ?_
      clear hK K
      (try simp only [Act.put, qI, qO, qU])
      clear hHeld u
      obtain ⟨u, hu⟩ : ∃ u, u' = u := ⟨_, rfl⟩
      rw [hu] at H ⊢
      clear hu u'
      have hHeld := H.1
      refine lrdy 11 fun K hK => ?_
      go_simp
      replace H : SepC w3 (u.alloc (.cells #[.int .i64 f, .int .i64 k.g, .int .i64 k.lev, .int .i64 k.role, .slice (some ⟨gm, 0, none⟩) 8 8] 115)) (blkT u.heap.size 115 (rpE.all [(f, k, (some ⟨gm, 0, none⟩, 8))]).toArray :: _) := H.alloc _ _
      replace H := H.litOwn (c := 1) (by simp) (by simp)
      refine hK.out _ _ (fun _ => by (try dsimp only); exact H.1) ?_
      clear hK K
      (try simp only [Act.put, qI, qO, qU])
      clear hHeld
      generalize u.alloc (.cells #[.int .i64 f, .int .i64 k.g, .int .i64 k.lev, .int .i64 k.role, .slice (some ⟨gm, 0, none⟩) 8 8] 115) = u' at *
      generalize u.heap.size = gg at *
      clear u
      obtain ⟨u, hu⟩ : ∃ u, u' = u := ⟨_, rfl⟩
      rw [hu] at H ⊢
      clear hu u'
      have hHeld := H.1
      refine lrdy 12 fun K hK => ?_
      refine step_append_G (E := rpE) (some 70) rfl rfl (.tmp 64) (.tmp 69) 110 rfl 115 (.agg #[.int .i64 0, .int .i64 0, .int .i64 0, .int .i64 0, .slice none 0 0]) 56 Tryz.underlying110 Page14_info rfl (.slice A5 s.L.length c5) (rowsR s.L R) rfl (H.pick 1 rfl).own (some ⟨gg, 0, none⟩) 1 1 [(f, k, (some ⟨gm, 0, none⟩, 8))] rfl ((H.pick 0 rfl).own.src) rfl (by rw [hRl]; omega) (fun v' u' ho5 hc5 hb5 => ?_)
      obtain ⟨A6, c6, rfl, hx1, hx2⟩ := ho5.form
      clear hx1 hx2
      have hl6 : (rowsR s.L R ++ [(f, k, ((some ⟨gm, 0, none⟩ : Option Addr), 8))]).length = s.L.length + 1 := by rw [List.length_append, hRl]; rfl
      rw [hl6] at ho5 hb5 ⊢
      replace H := (H.pick 1 rfl).app ho5 hc5 hb5
      clear ho5 hc5 hb5 hl6
      refine hK.out _ _ (fun _ => by (try dsimp only); exact H.1) ?_
      clear hK K
      (try simp only [Act.put, qI, qO, qU])
      clear hHeld u
      have hqu := hst3.chg_ H.1 (by simp)
      have c2 := hqu.cell 2; have f2 := hqu.frozen 2
      simp only [qA, qZ, qS] at c2
      refine lrdy 13 fun K hK => ?_
      go_simp
      refine hK.out _ _ (fun _ => by (try dsimp only); exact H.1) ?_
      clear hK K
      (try simp only [Act.put, qI, qO, qU])
      refine lrdy 14 fun K hK => ?_
      go_simp
      refine hK.out _ _ (fun _ => by (try dsimp only); exact H.1) ?_
      clear hK K
      (try simp only [Act.put, qI, qO, qU])
      refine lrdy 15 fun K hK => ?_
      go_simp
      refine hK.out _ _ (fun e => absurd rfl e) ?_
      clear hK K
      (try simp only [Act.put, qI, qO, qU])
      refine late_done (by kernel_rfl) ?_ _
      refine NoPanic.normal ?_
      have hmore := (h3.new H.1).more (p := ⟨f, k, List.replicate 8 Slt.no⟩) (r := (some ⟨gm, 0, none⟩, 8)) (H.pick 0 rfl).own (H.pick 2 rfl).own
      have hA6 : ∀ g ∈ lB A6, w.heap.size ≤ g := fun g hg => by
       obtain ⟨S_, ⟨e_, _⟩, hS_⟩ := H.fst
       have := hS_ g (by rw [e_]; cases A6 <;> exact hg)
       have := y03.size; omega
      have hgm : w.heap.size ≤ gm := by
       obtain ⟨S_, ⟨e_, _⟩, hS_⟩ := (H.pick 2 rfl).fst
       have := hS_ gm (by rw [e_]; simp [Value.ownBlock])
       have := y03.size; omega
      have hyv : Chg (rb :: q :: FS) w (u'.setCell ⟨q, 2, none⟩ (.slice A6 (s.L.length + 1) c6)) := ((y03.weak (fun i_ _ hi_ => by simp [hi_])).trans H.1 (by simp)).setCell (p := ⟨q, 2, none⟩) (by simp) _
      clear hqu c2 f2 H h3 hst3 kb3 hRl
      generalize u'.setCell ⟨q, 2, none⟩ (.slice A6 (s.L.length + 1) c6) = v0 at *
      clear u'
      go_wp2_with fail
      go_loopw [10] (fun s10 wr => ∃ j : Nat, j ≤ 8 ∧ s10 = .int .i64 j ∧ RStX wr q rp rb fp n a m ⟨s.L ++ [⟨f, k, List.replicate 8 Slt.no⟩], s.fr.dropLast, K j⟩ A6 c6 (R ++ [(some ⟨gm, 0, none⟩, 8)]) FS ∧ Chg (rb :: q :: FS) w wr) (fun s10 _ => 8 - (intOf s10).toNat)
      case atStart => exact ⟨0, by omega, rfl, hmore, hyv⟩
      obtain ⟨j, hj, rfl, hr, y⟩ := hrel
      clear hmore hyv
      by_cases hlt : j < 8
      ·have hjz : (j : Int) < 8 := by omega
       have hset := RSet_at rp rb n (K j) f j 0 wr hr.hm
       rw [← hKs] at hset
       have c0 := hr.st.cell 0
       simp only [qA, qZ] at c0
       go_wp2_with fail
       refine hset.mono ?_; rintro e w9 ⟨rfl, y9, hm9⟩
       have hr9 := hr.words y9 hm9
       clear hset c0 hr
       go_wp2_with fail
       go_roundw
       case rel => exact ⟨j + 1, by omega, by go_num, hr9, y.trans y9 (fun i_ _ hi_ => by simp only [List.mem_singleton] at hi_; subst hi_; simp)⟩
       case measure => simp [intOf]; omega
      obtain rfl : j = 8 := by omega
      have hjz : ¬ ((8 : Nat) : Int) < 8 := by omega
      go_wp2_with fail
      go_ret2
      refine ⟨by (first | (rw [hmv.out, hmt.out]; rfl) | (rw [hmv.out]; rfl)), A6, c6, _, FS, by rw [hK8.out] at hr; exact hr, y.weak (fun i_ _ hi_ => by simp only [List.mem_cons, List.mem_append] at hi_ ⊢; rcases hi_ with h_ | h_ | h_ <;> simp [h_]), fun g_ hg_ => ?_, fun r_ hr_ => ?_⟩
      ·rw [List.mem_append] at hg_
       rcases hg_ with h_ | h_
       ·exact .inr (hA6 g_ h_)
       exact .inl (by simp [h_])
      rw [List.mem_append] at hr_
      rcases hr_ with h_ | h_
      ·exact .inl h_
      rw [List.mem_singleton] at h_; subst h_; exact .inr ⟨gm, rfl, hgm⟩
     go_simp
     replace H : SepC w3 (u.alloc (.cells #[.int .i64 f, .int .i64 k.g, .int .i64 k.lev, .int .i64 k.role, .slice (some ⟨gm, 0, none⟩) 8 8] 115)) (blkT u.heap.size 115 (rpE.all [(f, k, (some ⟨gm, 0, none⟩, 8))]).toArray :: _) := H.alloc _ _
     replace H := H.litOwn (c := 1) (by simp) (by simp)
     refine hK.out _ _ (fun _ => by (try dsimp only); exact H.1) ?_
     clear hK K
     (try simp only [Act.put, qI, qO, qU])
     clear hHeld
     generalize u.alloc (.cells #[.int .i64 f, .int .i64 k.g, .int .i64 k.lev, .int .i64 k.role, .slice (some ⟨gm, 0, none⟩) 8 8] 115) = u' at *
     generalize u.heap.size = gg at *
     clear u
     obtain ⟨u, hu⟩ : ∃ u, u' = u := ⟨_, rfl⟩
     rw [hu] at H ⊢
     clear hu u'
     have hHeld := H.1
     refine lrdy 6 fun K hK => ?_
     refine step_append_G (E := rpE) (some 64) rfl rfl (.tmp 59) (.tmp 63) 110 rfl 115 (.agg #[.int .i64 0, .int .i64 0, .int .i64 0, .int .i64 0, .slice none 0 0]) 56 Tryz.underlying110 Page14_info rfl (.slice (some ⟨ga, 0, none⟩) 0 0) [] rfl (H.pick 1 rfl).own LA s.L.length lc (rowsR s.L R) rfl ((h3.hl.new H.1).src) hRl (by simp; omega) (fun v' u' ho5 hc5 hb5 => ?_)
     rw [List.nil_append] at ho5
     obtain ⟨A5, c5, rfl, hx1, hx2⟩ := ho5.form
     clear hx1 hx2
     rw [hRl] at ho5 hb5 ⊢
     replace H := (H.pick 1 rfl).app ho5 hc5 hb5
     clear ho5 hc5 hb5
     refine hK.out _ _ (fun _ => by (try dsimp only); exact H.1) ?_
     clear hK K
     (try simp only [Act.put, qI, qO, qU])
     clear hHeld u
     obtain ⟨u, hu⟩ : ∃ u, u' = u := ⟨_, rfl⟩
     rw [hu] at H ⊢
     clear hu u'
     have hHeld := H.1
     refine lrdy 12 fun K hK => ?_
     refine step_append_G (E := rpE) (some 70) rfl rfl (.tmp 64) (.tmp 69) 110 rfl 115 (.agg #[.int .i64 0, .int .i64 0, .int .i64 0, .int .i64 0, .slice none 0 0]) 56 Tryz.underlying110 Page14_info rfl (.slice A5 s.L.length c5) (rowsR s.L R) rfl (H.pick 0 rfl).own (some ⟨gg, 0, none⟩) 1 1 [(f, k, (some ⟨gm, 0, none⟩, 8))] rfl ((H.pick 1 rfl).own.src) rfl (by rw [hRl]; omega) (fun v' u' ho5 hc5 hb5 => ?_)
     obtain ⟨A6, c6, rfl, hx1, hx2⟩ := ho5.form
     clear hx1 hx2
     have hl6 : (rowsR s.L R ++ [(f, k, ((some ⟨gm, 0, none⟩ : Option Addr), 8))]).length = s.L.length + 1 := by rw [List.length_append, hRl]; rfl
     rw [hl6] at ho5 hb5 ⊢
     replace H := (H.pick 0 rfl).app ho5 hc5 hb5
     clear ho5 hc5 hb5 hl6
     refine hK.out _ _ (fun _ => by (try dsimp only); exact H.1) ?_
     clear hK K
     (try simp only [Act.put, qI, qO, qU])
     clear hHeld u
     have hqu := hst3.chg_ H.1 (by simp)
     have c2 := hqu.cell 2; have f2 := hqu.frozen 2
     simp only [qA, qZ, qS] at c2
     refine lrdy 13 fun K hK => ?_
     go_simp
     refine hK.out _ _ (fun _ => by (try dsimp only); exact H.1) ?_
     clear hK K
     (try simp only [Act.put, qI, qO, qU])
     refine lrdy 14 fun K hK => ?_
     go_simp
     refine hK.out _ _ (fun _ => by (try dsimp only); exact H.1) ?_
     clear hK K
     (try simp only [Act.put, qI, qO, qU])
     refine lrdy 15 fun K hK => ?_
     go_simp
     refine hK.out _ _ (fun e => absurd rfl e) ?_
     clear hK K
     (try simp only [Act.put, qI, qO, qU])
     refine late_done (by kernel_rfl) ?_ _
     refine NoPanic.normal ?_
     have hmore := (h3.new H.1).more (p := ⟨f, k, List.replicate 8 Slt.no⟩) (r := (some ⟨gm, 0, none⟩, 8)) (H.pick 0 rfl).own (H.pick 2 rfl).own
     have hA6 : ∀ g ∈ lB A6, w.heap.size ≤ g := fun g hg => by
      obtain ⟨S_, ⟨e_, _⟩, hS_⟩ := H.fst
      have := hS_ g (by rw [e_]; cases A6 <;> exact hg)
      have := y03.size; omega
     have hgm : w.heap.size ≤ gm := by
      obtain ⟨S_, ⟨e_, _⟩, hS_⟩ := (H.pick 2 rfl).fst
      have := hS_ gm (by rw [e_]; simp [Value.ownBlock])
      have := y03.size; omega
     have hyv : Chg (rb :: q :: FS) w (u'.setCell ⟨q, 2, none⟩ (.slice A6 (s.L.length + 1) c6)) := ((y03.weak (fun i_ _ hi_ => by simp [hi_])).trans H.1 (by simp)).setCell (p := ⟨q, 2, none⟩) (by simp) _
     clear hqu c2 f2 H h3 hst3 kb3 hRl
     generalize u'.setCell ⟨q, 2, none⟩ (.slice A6 (s.L.length + 1) c6) = v0 at *
     clear u'
     go_wp2_with fail
     go_loopw [10] (fun s10 wr => ∃ j : Nat, j ≤ 8 ∧ s10 = .int .i64 j ∧ RStX wr q rp rb fp n a m ⟨s.L ++ [⟨f, k, List.replicate 8 Slt.no⟩], s.fr.dropLast, K j⟩ A6 c6 (R ++ [(some ⟨gm, 0, none⟩, 8)]) FS ∧ Chg (rb :: q :: FS) w wr) (fun s10 _ => 8 - (intOf s10).toNat)
     case atStart => exact ⟨0, by omega, rfl, hmore, hyv⟩
     obtain ⟨j, hj, rfl, hr, y⟩ := hrel
     clear hmore hyv
     by_cases hlt : j < 8
     ·have hjz : (j : Int) < 8 := by omega
      have hset := RSet_at rp rb n (K j) f j 0 wr hr.hm
      rw [← hKs] at hset
      have c0 := hr.st.cell 0
      simp only [qA, qZ] at c0
      go_wp2_with fail
      refine hset.mono ?_; rintro e w9 ⟨rfl, y9, hm9⟩
      have hr9 := hr.words y9 hm9
      clear hset c0 hr
      go_wp2_with fail
      go_roundw
      case rel => exact ⟨j + 1, by omega, by go_num, hr9, y.trans y9 (fun i_ _ hi_ => by simp only [List.mem_singleton] at hi_; subst hi_; simp)⟩
      case measure => simp [intOf]; omega
     obtain rfl : j = 8 := by omega
     have hjz : ¬ ((8 : Nat) : Int) < 8 := by omega
     go_wp2_with fail
     go_ret2
     refine ⟨by (first | (rw [hmv.out, hmt.out]; rfl) | (rw [hmv.out]; rfl)), A6, c6, _, FS, by rw [hK8.out] at hr; exact hr, y.weak (fun i_ _ hi_ => by simp only [List.mem_cons, List.mem_append] at hi_ ⊢; rcases hi_ with h_ | h_ | h_ <;> simp [h_]), fun g_ hg_ => ?_, fun r_ hr_ => ?_⟩
     ·rw [List.mem_append] at hg_
      rcases hg_ with h_ | h_
      ·exact .inr (hA6 g_ h_)
      exact .inl (by simp [h_])
     rw [List.mem_append] at hr_
     rcases hr_ with h_ | h_
     ·exact .inl h_
     rw [List.mem_singleton] at h_; subst h_; exact .inr ⟨gm, rfl, hgm⟩
    go_simp
    replace H : SepC w3 (u.alloc (.cells #[.int .i64 f, .int .i64 k.g, .int .i64 k.lev, .int .i64 k.role, .slice (some ⟨gm, 0, none⟩) 8 8] 115)) (blkT u.heap.size 115 (rpE.all [(f, k, (some ⟨gm, 0, none⟩, 8))]).toArray :: _) := H.alloc _ _
    replace H := H.litOwn (c := 1) (by simp) (by simp)
    refine hK.out _ _ (fun _ => by (try dsimp only); exact H.1) ?_
    clear hK K
    (try simp only [Act.put, qI, qO, qU])
    clear hHeld
    generalize u.alloc (.cells #[.int .i64 f, .int .i64 k.g, .int .i64 k.lev, .int .i64 k.role, .slice (some ⟨gm, 0, none⟩) 8 8] 115) = u' at *
    generalize u.heap.size = gg at *
    clear u
    obtain ⟨u, hu⟩ : ∃ u, u' = u := ⟨_, rfl⟩
    rw [hu] at H ⊢
    clear hu u'
    have hHeld := H.1
    refine lrdy 1 fun K hK => ?_
    go_simp
    replace H : SepC w3 (u.alloc (.cells #[] 115)) (blkT u.heap.size 115 (rpE.all []).toArray :: _) := H.alloc _ _
    replace H := H.litOwn (c := 0) (by simp) (by simp)
    refine hK.out _ _ (fun _ => by (try dsimp only); exact H.1) ?_
    clear hK K
    (try simp only [Act.put, qI, qO, qU])
    clear hHeld
    generalize u.alloc (.cells #[] 115) = u' at *
    generalize u.heap.size = ga at *
    clear u
    obtain ⟨u, hu⟩ : ∃ u, u' = u := ⟨_, rfl⟩
    rw [hu] at H ⊢
    clear hu u'
    have hHeld := H.1
    refine lrdy 6 fun K hK => ?_
    refine step_append_G (E := rpE) (some 64) rfl rfl (.tmp 59) (.tmp 63) 110 rfl 115 (.agg #[.int .i64 0, .int .i64 0, .int .i64 0, .int .i64 0, .slice none 0 0]) 56 Tryz.underlying110 Page14_info rfl (.slice (some ⟨ga, 0, none⟩) 0 0) [] rfl (H.pick 0 rfl).own LA s.L.length lc (rowsR s.L R) rfl ((h3.hl.new H.1).src) hRl (by simp; omega) (fun v' u' ho5 hc5 hb5 => ?_)
    rw [List.nil_append] at ho5
    obtain ⟨A5, c5, rfl, hx1, hx2⟩ := ho5.form
    clear hx1 hx2
    rw [hRl] at ho5 hb5 ⊢
    replace H := (H.pick 0 rfl).app ho5 hc5 hb5
    clear ho5 hc5 hb5
    refine hK.out _ _ (fun _ => by (try dsimp only); exact H.1) ?_
    clear hK K
    (try simp only [Act.put, qI, qO, qU])
    clear hHeld u
    obtain ⟨u, hu⟩ : ∃ u, u' = u := ⟨_, rfl⟩
    rw [hu] at H ⊢
    clear hu u'
    have hHeld := H.1
    refine lrdy 12 fun K hK => ?_
    refine step_append_G (E := rpE) (some 70) rfl rfl (.tmp 64) (.tmp 69) 110 rfl 115 (.agg #[.int .i64 0, .int .i64 0, .int .i64 0, .int .i64 0, .slice none 0 0]) 56 Tryz.underlying110 Page14_info rfl (.slice A5 s.L.length c5) (rowsR s.L R) rfl (H.pick 0 rfl).own (some ⟨gg, 0, none⟩) 1 1 [(f, k, (some ⟨gm, 0, none⟩, 8))] rfl ((H.pick 1 rfl).own.src) rfl (by rw [hRl]; omega) (fun v' u' ho5 hc5 hb5 => ?_)
    obtain ⟨A6, c6, rfl, hx1, hx2⟩ := ho5.form
    clear hx1 hx2
    have hl6 : (rowsR s.L R ++ [(f, k, ((some ⟨gm, 0, none⟩ : Option Addr), 8))]).length = s.L.length + 1 := by rw [List.length_append, hRl]; rfl
    rw [hl6] at ho5 hb5 ⊢
    replace H := (H.pick 0 rfl).app ho5 hc5 hb5
    clear ho5 hc5 hb5 hl6
    refine hK.out _ _ (fun _ => by (try dsimp only); exact H.1) ?_
    clear hK K
    (try simp only [Act.put, qI, qO, qU])
    clear hHeld u
    have hqu := hst3.chg_ H.1 (by simp)
    have c2 := hqu.cell 2; have f2 := hqu.frozen 2
    simp only [qA, qZ, qS] at c2
    refine lrdy 13 fun K hK => ?_
    go_simp
    refine hK.out _ _ (fun _ => by (try dsimp only); exact H.1) ?_
    clear hK K
    (try simp only [Act.put, qI, qO, qU])
    refine lrdy 14 fun K hK => ?_
    go_simp
    refine hK.out _ _ (fun _ => by (try dsimp only); exact H.1) ?_
    clear hK K
    (try simp only [Act.put, qI, qO, qU])
    refine lrdy 15 fun K hK => ?_
    go_simp
    refine hK.out _ _ (fun e => absurd rfl e) ?_
    clear hK K
    (try simp only [Act.put, qI, qO, qU])
    refine late_done (by kernel_rfl) ?_ _
    refine NoPanic.normal ?_
    have hmore := (h3.new H.1).more (p := ⟨f, k, List.replicate 8 Slt.no⟩) (r := (some ⟨gm, 0, none⟩, 8)) (H.pick 0 rfl).own (H.pick 2 rfl).own
    have hA6 : ∀ g ∈ lB A6, w.heap.size ≤ g := fun g hg => by
     obtain ⟨S_, ⟨e_, _⟩, hS_⟩ := H.fst
     have := hS_ g (by rw [e_]; cases A6 <;> exact hg)
     have := y03.size; omega
    have hgm : w.heap.size ≤ gm := by
     obtain ⟨S_, ⟨e_, _⟩, hS_⟩ := (H.pick 2 rfl).fst
     have := hS_ gm (by rw [e_]; simp [Value.ownBlock])
     have := y03.size; omega
    have hyv : Chg (rb :: q :: FS) w (u'.setCell ⟨q, 2, none⟩ (.slice A6 (s.L.length + 1) c6)) := ((y03.weak (fun i_ _ hi_ => by simp [hi_])).trans H.1 (by simp)).setCell (p := ⟨q, 2, none⟩) (by simp) _
    clear hqu c2 f2 H h3 hst3 kb3 hRl
    generalize u'.setCell ⟨q, 2, none⟩ (.slice A6 (s.L.length + 1) c6) = v0 at *
    clear u'
    go_wp2_with fail
    go_loopw [10] (fun s10 wr => ∃ j : Nat, j ≤ 8 ∧ s10 = .int .i64 j ∧ RStX wr q rp rb fp n a m ⟨s.L ++ [⟨f, k, List.replicate 8 Slt.no⟩], s.fr.dropLast, K j⟩ A6 c6 (R ++ [(some ⟨gm, 0, none⟩, 8)]) FS ∧ Chg (rb :: q :: FS) w wr) (fun s10 _ => 8 - (intOf s10).toNat)
    case atStart => exact ⟨0, by omega, rfl, hmore, hyv⟩
    obtain ⟨j, hj, rfl, hr, y⟩ := hrel
    clear hmore hyv
    by_cases hlt : j < 8
    ·have hjz : (j : Int) < 8 := by omega
     have hset := RSet_at rp rb n (K j) f j 0 wr hr.hm
     rw [← hKs] at hset
     have c0 := hr.st.cell 0
     simp only [qA, qZ] at c0
     go_wp2_with fail
     refine hset.mono ?_; rintro e w9 ⟨rfl, y9, hm9⟩
     have hr9 := hr.words y9 hm9
     clear hset c0 hr
     go_wp2_with fail
     go_roundw
     case rel => exact ⟨j + 1, by omega, by go_num, hr9, y.trans y9 (fun i_ _ hi_ => by simp only [List.mem_singleton] at hi_; subst hi_; simp)⟩
     case measure => simp [intOf]; omega
    obtain rfl : j = 8 := by omega
    have hjz : ¬ ((8 : Nat) : Int) < 8 := by omega
    go_wp2_with fail
    go_ret2
    refine ⟨by (first | (rw [hmv.out, hmt.out]; rfl) | (rw [hmv.out]; rfl)), A6, c6, _, FS, by rw [hK8.out] at hr; exact hr, y.weak (fun i_ _ hi_ => by simp only [List.mem_cons, List.mem_append] at hi_ ⊢; rcases hi_ with h_ | h_ | h_ <;> simp [h_]), fun g_ hg_ => ?_, fun r_ hr_ => ?_⟩
    ·rw [List.mem_append] at hg_
     rcases hg_ with h_ | h_
     ·exact .inr (hA6 g_ h_)
     exact .inl (by simp [h_])
    rw [List.mem_append] at hr_
    rcases hr_ with h_ | h_
    ·exact .inl h_
    rw [List.mem_singleton] at h_; subst h_; exact .inr ⟨gm, rfl, hgm⟩
   have htv : takeV s.fr = 0 := by unfold takeV; rw [List.isEmpty_iff.1 hem]; rfl
   have htb : takeB s.fr = false := by unfold takeB; rw [hem]; rfl
   rw [htv, htb] at hlast
   have hmB' : makeB s k = false := by rw [hmB, hem]; rfl
   obtain ⟨e1, e2⟩ := hno hmB'
   rw [e1, e2, hmB']
   have hsn : s.fr.dropLast = s.fr := by rw [List.isEmpty_iff.1 hem]; rfl
   rw [hsn] at hlast
   clear hno hmB hmB' e1 e2 hem htv htb hsn
   go_enter Tryz.func97, Tryz.ntmps97
   go_wp2_with fail
   refine (hfd _ y0).mono ?_; rintro e w2 ⟨rfl, y2⟩
   have kb2 := kb0.chg_ y2 (by simp)
   have z2 := y0.trans y2 (by simp)
   clear hfd x0 x1 x2
   obtain ⟨kb, hkb⟩ : ∃ kb, w.heap.size = kb := ⟨_, rfl⟩
   rw [hkb] at kb2 hkl ⊢
   have hkb2 := Nat.lt_of_lt_of_le hkl y2.size
   clear y2 kb0 hkl
   clear y0
   replace hkb := Lib.hid hkb
   have x0 := kb2.cell 0; have x1 := kb2.cell 1; have x2 := kb2.cell 2
   simp only [qA, qZ, qS] at x0 x1 x2
   have q1 := hf1 _ z2
   go_wp2_with fail
   refine (hlast _ z2).mono ?_; rintro e w3 ⟨rfl, y3, hf3⟩
   have h3 := (h.new z2).frees y3 hf3
   go_wp2_with fail
   go_ret2
   exact ⟨rfl, LA, lc, R, FS, h3, (z2.weak (by simp)).trans (y3.weak (T := rb :: q :: (lB LA ++ FS)) (fun i _ hi => by simp [hi])) (fun _ _ h => h), fun _ h => .inl h, RNew.refl _ _⟩
  have bc6 : (k.lev != 1) = false := by simp; simp at c6; omega
  clear c1 c2 c3 c4 c5
  cases hem : s.fr.isEmpty
  ·have htb : takeB s.fr = true := by unfold takeB; rw [hem]; rfl
   rw [htb] at hlast
   go_enter Tryz.func97, Tryz.ntmps97
   go_wp2_with fail
   refine (hfd _ y0).mono ?_; rintro e w2 ⟨rfl, y2⟩
   have kb2 := kb0.chg_ y2 (by simp)
   have z2 := y0.trans y2 (by simp)
   clear hfd x0 x1 x2
   obtain ⟨kb, hkb⟩ : ∃ kb, w.heap.size = kb := ⟨_, rfl⟩
   rw [hkb] at kb2 hkl ⊢
   have hkb2 := Nat.lt_of_lt_of_le hkl y2.size
   clear y2 kb0 hkl
   clear y0
   replace hkb := Lib.hid hkb
   have x0 := kb2.cell 0; have x1 := kb2.cell 1; have x2 := kb2.cell 2
   simp only [qA, qZ, qS] at x0 x1 x2
   have q1 := hf1 _ z2
   go_wp2_with fail
   refine (hlast _ z2).mono ?_; rintro e w3 ⟨rfl, y3, hf3⟩
   have y03 : Chg FS w w3 := (z2.weak (by simp)).trans y3 (fun _ _ h => h)
   have hFS := h.hf.lt
   have kb3 := kb2.chg_ y3 (fun hm => by have := hFS _ hm; have := hkb.out; omega)
   have h3 := (h.new z2).frees y3 hf3
   have hmB' : makeB s k = true := by rw [hmB, hem]; rfl
   (try rw [hmB'])
   have hme := make_empty ok hmB'
   have hmt := Lib.hid hmB'
   have hms : makeS n s k = ⟨s.L ++ [⟨s.fr.getLastD 0, k, List.replicate 8 Slt.no⟩], s.fr.dropLast, fillW n s.W (s.fr.getLastD 0) (zeros 8)⟩ := by unfold makeS; rw [if_pos hmB']
   have hmv : makeV s k = s.fr.getLastD 0 := by unfold makeV; rw [if_pos hmB']
   obtain ⟨f, hf⟩ : ∃ f, s.fr.getLastD 0 = f := ⟨_, rfl⟩
   rw [show takeV s.fr = s.fr.getLastD 0 from rfl, hf]
   rw [hf] at hme hms hmv
   obtain ⟨K, hK0, hKs, hK8⟩ : ∃ K : Nat → List Int, K 0 = s.W ∧ (∀ j : Nat, K (j + 1) = setW n (K j) f j 0) ∧ (⟨s.L ++ [⟨f, k, List.replicate 8 Slt.no⟩], s.fr.dropLast, K 8⟩ : Sr) = makeS n s k := by
    refine ⟨fun j => (emptyS n ⟨s.L ++ [⟨f, k, List.replicate 8 Slt.no⟩], s.fr.dropLast, s.W⟩ f j).W, rfl, fun _ => rfl, ?_⟩
    show (⟨_, _, (emptyS n _ f 8).W⟩ : Sr) = _
    rw [hme, hms]
   have h3 : RStX w3 q rp rb fp n a m ⟨s.L, s.fr.dropLast, K 0⟩ LA lc R FS := by rw [hK0]; exact h3
   replace hK8 := Lib.hid hK8; replace hmv := Lib.hid hmv
   have hst3 := h3.st
   have hRl : (rowsR s.L R).length = s.L.length := by unfold rowsR; rw [List.length_zipWith, h.len]; omega
   have hNl := ok.le256
   clear hf hme hms hK0 hmB hmB' htb hem hpo hno ok hlast hf1 hf3 y3 z2 kb2 hkb2 hkb x0 x1 x2 hFS hr
   go_upto_region 7 with fail
   refine wp_region_noPanic ?_
   refine late_region (S := (fun w' => Chg [] w3 w')) (Z := 15) (by kernel_rfl) ((Chg.refl [] w3).drew) (fun hHeld => ?_)
   have H : SepC w3 w3.drew [] := (SepC.nil w3).new (Chg.refl [] w3).drew
   have hmk := mk_slots
   clear hHeld
   generalize w3.drew = u at *
   have hHeld := H.1
   (refine lk 0 58 ?_ ?_ ?_; rotate_left; · (intro w hSw; go_simp; (try with_reducible rfl)))
   (try simp only [Act.put, qI, qO, qU])
   (refine lk 2 60 ?_ ?_ ?_; rotate_left; · (intro w hSw; go_simp; (try with_reducible rfl)))
   (try simp only [Act.put, qI, qO, qU])
   (refine lk 3 61 ?_ ?_ ?_; rotate_left; · (intro w hSw; go_simp; (try with_reducible rfl)))
   (try simp only [Act.put, qI, qO, qU])
   (refine lk 4 62 ?_ ?_ ?_; rotate_left; · (intro w hSw; go_simp; (try with_reducible rfl)))
   (try simp only [Act.put, qI, qO, qU])
   (refine lk 5 63 ?_ ?_ ?_; rotate_left; · (intro w hSw; (try dsimp only at hSw); have b_ := (hst3.chg_ hSw (by simp)).cell 2; simp only [qA, qZ, qS] at b_; go_simp; (try with_reducible rfl)))
   (try simp only [Act.put, qI, qO, qU])
   (refine lk 7 65 ?_ ?_ ?_; rotate_left; · (intro w hSw; go_simp; (try with_reducible rfl)))
   (try simp only [Act.put, qI, qO, qU])
   (refine lk 8 66 ?_ ?_ ?_; rotate_left; · (intro w hSw; (try dsimp only at hSw); have b_ := kb3.chg_ hSw (by simp); have d0 := b_.cell 0; have d1 := b_.cell 1; have d2 := b_.cell 2; simp only [qA, qZ, qS] at d0 d1 d2; go_simp; (try with_reducible rfl)))
   (try simp only [Act.put, qI, qO, qU])
   refine late_ready (rs := [1, 9]) (by kernel_rfl) (by simp) ?_; refine AllLate.cons (o := _) rfl (fun K hK => ?_) (AllLate.cons (o := _) rfl (fun K hK => ?_) AllLate.nil)
   ·go_simp
    replace H : SepC w3 (u.alloc (.cells #[] 115)) (blkT u.heap.size 115 (rpE.all []).toArray :: _) := H.alloc _ _
    replace H := H.litOwn (c := 0) (by simp) (by simp)
    refine hK.out _ _ (fun _ => by (try dsimp only); exact H.1) ?_
    clear hK K
    (try simp only [Act.put, qI, qO, qU])
    clear hHeld
    generalize u.alloc (.cells #[] 115) = u' at *
    generalize u.heap.size = ga at *
    clear u
    obtain ⟨u, hu⟩ : ∃ u, u' = u := ⟨_, rfl⟩
    rw [hu] at H ⊢
    clear hu u'
    have hHeld := H.1
    refine late_ready (rs := [6, 9]) (by kernel_rfl) (by simp) ?_; refine AllLate.cons (o := _) rfl (fun K hK => ?_) (AllLate.cons (o := _) rfl (fun K hK => ?_) AllLate.nil)
    ·refine step_append_G (E := rpE) (some 64) rfl rfl (.tmp 59) (.tmp 63) 110 rfl 115 (.agg #[.int .i64 0, .int .i64 0, .int .i64 0, .int .i64 0, .slice none 0 0]) 56 Tryz.underlying110 Page14_info rfl (.slice (some ⟨ga, 0, none⟩) 0 0) [] rfl (H.pick 0 rfl).own LA s.L.length lc (rowsR s.L R) rfl ((h3.hl.new H.1).src) hRl (by simp; omega) (fun v' u' ho5 hc5 hb5 => ?_)
     rw [List.nil_append] at ho5
     obtain ⟨A5, c5, rfl, hx1, hx2⟩ := ho5.form
     clear hx1 hx2
     rw [hRl] at ho5 hb5 ⊢
     replace H := (H.pick 0 rfl).app ho5 hc5 hb5
     clear ho5 hc5 hb5
     refine hK.out _ _ (fun _ => by (try dsimp only); exact H.1) ?_
     clear hK K
     (try simp only [Act.put, qI, qO, qU])
     clear hHeld u
     obtain ⟨u, hu⟩ : ∃ u, u' = u := ⟨_, rfl⟩
     rw [hu] at H ⊢
     clear hu u'
     have hHeld := H.1
     refine lrdy 9 fun K hK => ?_
     go_simp
     replace H : SepC w3 (u.alloc (.cells slots8.toArray 72)) (blkT u.heap.size 72 (sltE.all (List.replicate 8 Slt.no)).toArray :: _) := H.alloc _ _
     replace H := H.litOwn (c := 8) (by simp) (by simp)
     refine hK.out _ _ (fun _ => by (try dsimp only); exact H.1) ?_
     clear hK K
     (try simp only [Act.put, qI, qO, qU])
     clear hHeld
     generalize u.alloc (.cells slots8.toArray 72) = u' at *
     generalize u.heap.size = gm at *
     clear u
     obtain ⟨u, hu⟩ : ∃ u, u' = u := ⟨_, rfl⟩
     rw [hu] at H ⊢
     clear hu u'
     have hHeld := H.1
     (refine lk 10 68 ?_ ?_ ?_; rotate_left; · (intro w hSw; go_simp; (try with_reducible rfl)))
     (try simp only [Act.put, qI, qO, qU])
     refine lrdy 11 fun K hK => ?_
     go_simp
     replace H : SepC w3 (u.alloc (.cells #[.int .i64 f, .int .i64 k.g, .int .i64 k.lev, .int .i64 k.role, .slice (some ⟨gm, 0, none⟩) 8 8] 115)) (blkT u.heap.size 115 (rpE.all [(f, k, (some ⟨gm, 0, none⟩, 8))]).toArray :: _) := H.alloc _ _
     replace H := H.litOwn (c := 1) (by simp) (by simp)
     refine hK.out _ _ (fun _ => by (try dsimp only); exact H.1) ?_
     clear hK K
     (try simp only [Act.put, qI, qO, qU])
     clear hHeld
     generalize u.alloc (.cells #[.int .i64 f, .int .i64 k.g, .int .i64 k.lev, .int .i64 k.role, .slice (some ⟨gm, 0, none⟩) 8 8] 115) = u' at *
     generalize u.heap.size = gg at *
     clear u
     obtain ⟨u, hu⟩ : ∃ u, u' = u := ⟨_, rfl⟩
     rw [hu] at H ⊢
     clear hu u'
     have hHeld := H.1
     refine lrdy 12 fun K hK => ?_
     refine step_append_G (E := rpE) (some 70) rfl rfl (.tmp 64) (.tmp 69) 110 rfl 115 (.agg #[.int .i64 0, .int .i64 0, .int .i64 0, .int .i64 0, .slice none 0 0]) 56 Tryz.underlying110 Page14_info rfl (.slice A5 s.L.length c5) (rowsR s.L R) rfl (H.pick 2 rfl).own (some ⟨gg, 0, none⟩) 1 1 [(f, k, (some ⟨gm, 0, none⟩, 8))] rfl ((H.pick 0 rfl).own.src) rfl (by rw [hRl]; omega) (fun v' u' ho5 hc5 hb5 => ?_)
     obtain ⟨A6, c6, rfl, hx1, hx2⟩ := ho5.form
     clear hx1 hx2
     have hl6 : (rowsR s.L R ++ [(f, k, ((some ⟨gm, 0, none⟩ : Option Addr), 8))]).length = s.L.length + 1 := by rw [List.length_append, hRl]; rfl
     rw [hl6] at ho5 hb5 ⊢
     replace H := (H.pick 2 rfl).app ho5 hc5 hb5
     clear ho5 hc5 hb5 hl6
     refine hK.out _ _ (fun _ => by (try dsimp only); exact H.1) ?_
     clear hK K
     (try simp only [Act.put, qI, qO, qU])
     clear hHeld u
     have hqu := hst3.chg_ H.1 (by simp)
     have c2 := hqu.cell 2; have f2 := hqu.frozen 2
     simp only [qA, qZ, qS] at c2
     refine lrdy 13 fun K hK => ?_
     go_simp
     refine hK.out _ _ (fun _ => by (try dsimp only); exact H.1) ?_
     clear hK K
     (try simp only [Act.put, qI, qO, qU])
     refine lrdy 14 fun K hK => ?_
     go_simp
     refine hK.out _ _ (fun _ => by (try dsimp only); exact H.1) ?_
     clear hK K
     (try simp only [Act.put, qI, qO, qU])
     refine lrdy 15 fun K hK => ?_
     go_simp
     refine hK.out _ _ (fun e => absurd rfl e) ?_
     clear hK K
     (try simp only [Act.put, qI, qO, qU])
     refine late_done (by kernel_rfl) ?_ _
     refine NoPanic.normal ?_
     have hmore := (h3.new H.1).more (p := ⟨f, k, List.replicate 8 Slt.no⟩) (r := (some ⟨gm, 0, none⟩, 8)) (H.pick 0 rfl).own (H.pick 2 rfl).own
     have hA6 : ∀ g ∈ lB A6, w.heap.size ≤ g := fun g hg => by
      obtain ⟨S_, ⟨e_, _⟩, hS_⟩ := H.fst
      have := hS_ g (by rw [e_]; cases A6 <;> exact hg)
      have := y03.size; omega
     have hgm : w.heap.size ≤ gm := by
      obtain ⟨S_, ⟨e_, _⟩, hS_⟩ := (H.pick 2 rfl).fst
      have := hS_ gm (by rw [e_]; simp [Value.ownBlock])
      have := y03.size; omega
     have hyv : Chg (rb :: q :: FS) w (u'.setCell ⟨q, 2, none⟩ (.slice A6 (s.L.length + 1) c6)) := ((y03.weak (fun i_ _ hi_ => by simp [hi_])).trans H.1 (by simp)).setCell (p := ⟨q, 2, none⟩) (by simp) _
     clear hqu c2 f2 H h3 hst3 kb3 hRl
     generalize u'.setCell ⟨q, 2, none⟩ (.slice A6 (s.L.length + 1) c6) = v0 at *
     clear u'
     go_wp2_with fail
     go_loopw [10] (fun s10 wr => ∃ j : Nat, j ≤ 8 ∧ s10 = .int .i64 j ∧ RStX wr q rp rb fp n a m ⟨s.L ++ [⟨f, k, List.replicate 8 Slt.no⟩], s.fr.dropLast, K j⟩ A6 c6 (R ++ [(some ⟨gm, 0, none⟩, 8)]) FS ∧ Chg (rb :: q :: FS) w wr) (fun s10 _ => 8 - (intOf s10).toNat)
     case atStart => exact ⟨0, by omega, rfl, hmore, hyv⟩
     obtain ⟨j, hj, rfl, hr, y⟩ := hrel
     clear hmore hyv
     by_cases hlt : j < 8
     ·have hjz : (j : Int) < 8 := by omega
      have hset := RSet_at rp rb n (K j) f j 0 wr hr.hm
      rw [← hKs] at hset
      have c0 := hr.st.cell 0
      simp only [qA, qZ] at c0
      go_wp2_with fail
      refine hset.mono ?_; rintro e w9 ⟨rfl, y9, hm9⟩
      have hr9 := hr.words y9 hm9
      clear hset c0 hr
      go_wp2_with fail
      go_roundw
      case rel => exact ⟨j + 1, by omega, by go_num, hr9, y.trans y9 (fun i_ _ hi_ => by simp only [List.mem_singleton] at hi_; subst hi_; simp)⟩
      case measure => simp [intOf]; omega
     obtain rfl : j = 8 := by omega
     have hjz : ¬ ((8 : Nat) : Int) < 8 := by omega
     go_wp2_with fail
     go_ret2
     refine ⟨by (first | (rw [hmv.out, hmt.out]; rfl) | (rw [hmv.out]; rfl)), A6, c6, _, FS, by rw [hK8.out] at hr; exact hr, y.weak (fun i_ _ hi_ => by simp only [List.mem_cons, List.mem_append] at hi_ ⊢; rcases hi_ with h_ | h_ | h_ <;> simp [h_]), fun g_ hg_ => ?_, fun r_ hr_ => ?_⟩
     ·rw [List.mem_append] at hg_
      rcases hg_ with h_ | h_
      ·exact .inr (hA6 g_ h_)
      exact .inl (by simp [h_])
     rw [List.mem_append] at hr_
     rcases hr_ with h_ | h_
     ·exact .inl h_
     rw [List.mem_singleton] at h_; subst h_; exact .inr ⟨gm, rfl, hgm⟩
    go_simp
    replace H : SepC w3 (u.alloc (.cells slots8.toArray 72)) (blkT u.heap.size 72 (sltE.all (List.replicate 8 Slt.no)).toArray :: _) := H.alloc _ _
    replace H := H.litOwn (c := 8) (by simp) (by simp)
    refine hK.out _ _ (fun _ => by (try dsimp only); exact H.1) ?_
    clear hK K
    (try simp only [Act.put, qI, qO, qU])
    clear hHeld
    generalize u.alloc (.cells slots8.toArray 72) = u' at *
    generalize u.heap.size = gm at *
    clear u
    obtain ⟨u, hu⟩ : ∃ u, u' = u := ⟨_, rfl⟩
    rw [hu] at H ⊢
    clear hu u'
    have hHeld := H.1
    (refine lk 10 68 ?_ ?_ ?_; rotate_left; · (intro w hSw; go_simp; (try with_reducible rfl)))
    (try simp only [Act.put, qI, qO, qU])
    refine late_ready (rs := [6, 11]) (by kernel_rfl) (by simp) ?_; refine AllLate.cons (o := _) rfl (fun K hK => ?_) (AllLate.cons (o := _) rfl (fun K hK => ?_) AllLate.nil)
    ·refine step_append_G (E := rpE) (some 64) rfl rfl (.tmp 59) (.tmp 63) 110 rfl 115 (.agg #[.int .i64 0, .int .i64 0, .int .i64 0, .int .i64 0, .slice none 0 0]) 56 Tryz.underlying110 Page14_info rfl (.slice (some ⟨ga, 0, none⟩) 0 0) [] rfl (H.pick 1 rfl).own LA s.L.length lc (rowsR s.L R) rfl ((h3.hl.new H.1).src) hRl (by simp; omega) (fun v' u' ho5 hc5 hb5 => ?_)
     rw [List.nil_append] at ho5
     obtain ⟨A5, c5, rfl, hx1, hx2⟩ := ho5.form
     clear hx1 hx2
     rw [hRl] at ho5 hb5 ⊢
     replace H := (H.pick 1 rfl).app ho5 hc5 hb5
     clear ho5 hc5 hb5
     refine hK.out _ _ (fun _ => by (try dsimp only); exact H.1) ?_
     clear hK K
     (try simp only [Act.put, qI, qO, qU])
     clear hHeld u
     obtain ⟨u, hu⟩ : ∃ u, u' = u := ⟨_, rfl⟩
     rw [hu] at H ⊢
     clear hu u'
     have hHeld := H.1
     refine lrdy 11 fun K hK => ?_
     go_simp
     replace H : SepC w3 (u.alloc (.cells #[.int .i64 f, .int .i64 k.g, .int .i64 k.lev, .int .i64 k.role, .slice (some ⟨gm, 0, none⟩) 8 8] 115)) (blkT u.heap.size 115 (rpE.all [(f, k, (some ⟨gm, 0, none⟩, 8))]).toArray :: _) := H.alloc _ _
     replace H := H.litOwn (c := 1) (by simp) (by simp)
     refine hK.out _ _ (fun _ => by (try dsimp only); exact H.1) ?_
     clear hK K
     (try simp only [Act.put, qI, qO, qU])
     clear hHeld
     generalize u.alloc (.cells #[.int .i64 f, .int .i64 k.g, .int .i64 k.lev, .int .i64 k.role, .slice (some ⟨gm, 0, none⟩) 8 8] 115) = u' at *
     generalize u.heap.size = gg at *
     clear u
     obtain ⟨u, hu⟩ : ∃ u, u' = u := ⟨_, rfl⟩
     rw [hu] at H ⊢
     clear hu u'
     have hHeld := H.1
     refine lrdy 12 fun K hK => ?_
     refine step_append_G (E := rpE) (some 70) rfl rfl (.tmp 64) (.tmp 69) 110 rfl 115 (.agg #[.int .i64 0, .int .i64 0, .int .i64 0, .int .i64 0, .slice none 0 0]) 56 Tryz.underlying110 Page14_info rfl (.slice A5 s.L.length c5) (rowsR s.L R) rfl (H.pick 1 rfl).own (some ⟨gg, 0, none⟩) 1 1 [(f, k, (some ⟨gm, 0, none⟩, 8))] rfl ((H.pick 0 rfl).own.src) rfl (by rw [hRl]; omega) (fun v' u' ho5 hc5 hb5 => ?_)
     obtain ⟨A6, c6, rfl, hx1, hx2⟩ := ho5.form
     clear hx1 hx2
     have hl6 : (rowsR s.L R ++ [(f, k, ((some ⟨gm, 0, none⟩ : Option Addr), 8))]).length = s.L.length + 1 := by rw [List.length_append, hRl]; rfl
     rw [hl6] at ho5 hb5 ⊢
     replace H := (H.pick 1 rfl).app ho5 hc5 hb5
     clear ho5 hc5 hb5 hl6
     refine hK.out _ _ (fun _ => by (try dsimp only); exact H.1) ?_
     clear hK K
     (try simp only [Act.put, qI, qO, qU])
     clear hHeld u
     have hqu := hst3.chg_ H.1 (by simp)
     have c2 := hqu.cell 2; have f2 := hqu.frozen 2
     simp only [qA, qZ, qS] at c2
     refine lrdy 13 fun K hK => ?_
     go_simp
     refine hK.out _ _ (fun _ => by (try dsimp only); exact H.1) ?_
     clear hK K
     (try simp only [Act.put, qI, qO, qU])
     refine lrdy 14 fun K hK => ?_
     go_simp
     refine hK.out _ _ (fun _ => by (try dsimp only); exact H.1) ?_
     clear hK K
     (try simp only [Act.put, qI, qO, qU])
     refine lrdy 15 fun K hK => ?_
     go_simp
     refine hK.out _ _ (fun e => absurd rfl e) ?_
     clear hK K
     (try simp only [Act.put, qI, qO, qU])
     refine late_done (by kernel_rfl) ?_ _
     refine NoPanic.normal ?_
     have hmore := (h3.new H.1).more (p := ⟨f, k, List.replicate 8 Slt.no⟩) (r := (some ⟨gm, 0, none⟩, 8)) (H.pick 0 rfl).own (H.pick 2 rfl).own
     have hA6 : ∀ g ∈ lB A6, w.heap.size ≤ g := fun g hg => by
      obtain ⟨S_, ⟨e_, _⟩, hS_⟩ := H.fst
      have := hS_ g (by rw [e_]; cases A6 <;> exact hg)
      have := y03.size; omega
     have hgm : w.heap.size ≤ gm := by
      obtain ⟨S_, ⟨e_, _⟩, hS_⟩ := (H.pick 2 rfl).fst
      have := hS_ gm (by rw [e_]; simp [Value.ownBlock])
      have := y03.size; omega
     have hyv : Chg (rb :: q :: FS) w (u'.setCell ⟨q, 2, none⟩ (.slice A6 (s.L.length + 1) c6)) := ((y03.weak (fun i_ _ hi_ => by simp [hi_])).trans H.1 (by simp)).setCell (p := ⟨q, 2, none⟩) (by simp) _
     clear hqu c2 f2 H h3 hst3 kb3 hRl
     generalize u'.setCell ⟨q, 2, none⟩ (.slice A6 (s.L.length + 1) c6) = v0 at *
     clear u'
     go_wp2_with fail
     go_loopw [10] (fun s10 wr => ∃ j : Nat, j ≤ 8 ∧ s10 = .int .i64 j ∧ RStX wr q rp rb fp n a m ⟨s.L ++ [⟨f, k, List.replicate 8 Slt.no⟩], s.fr.dropLast, K j⟩ A6 c6 (R ++ [(some ⟨gm, 0, none⟩, 8)]) FS ∧ Chg (rb :: q :: FS) w wr) (fun s10 _ => 8 - (intOf s10).toNat)
     case atStart => exact ⟨0, by omega, rfl, hmore, hyv⟩
     obtain ⟨j, hj, rfl, hr, y⟩ := hrel
     clear hmore hyv
     by_cases hlt : j < 8
     ·have hjz : (j : Int) < 8 := by omega
      have hset := RSet_at rp rb n (K j) f j 0 wr hr.hm
      rw [← hKs] at hset
      have c0 := hr.st.cell 0
      simp only [qA, qZ] at c0
      go_wp2_with fail
      refine hset.mono ?_; rintro e w9 ⟨rfl, y9, hm9⟩
      have hr9 := hr.words y9 hm9
      clear hset c0 hr
      go_wp2_with fail
      go_roundw
      case rel => exact ⟨j + 1, by omega, by go_num, hr9, y.trans y9 (fun i_ _ hi_ => by simp only [List.mem_singleton] at hi_; subst hi_; simp)⟩
      case measure => simp [intOf]; omega
     obtain rfl : j = 8 := by omega
     have hjz : ¬ ((8 : Nat) : Int) < 8 := by omega
     go_wp2_with fail
     go_ret2
     refine ⟨by (first | (rw [hmv.out, hmt.out]; rfl) | (rw [hmv.out]; rfl)), A6, c6, _, FS, by rw [hK8.out] at hr; exact hr, y.weak (fun i_ _ hi_ => by simp only [List.mem_cons, List.mem_append] at hi_ ⊢; rcases hi_ with h_ | h_ | h_ <;> simp [h_]), fun g_ hg_ => ?_, fun r_ hr_ => ?_⟩
     ·rw [List.mem_append] at hg_
      rcases hg_ with h_ | h_
      ·exact .inr (hA6 g_ h_)
      exact .inl (by simp [h_])
     rw [List.mem_append] at hr_
     rcases hr_ with h_ | h_
     ·exact .inl h_
     rw [List.mem_singleton] at h_; subst h_; exact .inr ⟨gm, rfl, hgm⟩
    go_simp
    replace H : SepC w3 (u.alloc (.cells #[.int .i64 f, .int .i64 k.g, .int .i64 k.lev, .int .i64 k.role, .slice (some ⟨gm, 0, none⟩) 8 8] 115)) (blkT u.heap.size 115 (rpE.all [(f, k, (some ⟨gm, 0, none⟩, 8))]).toArray :: _) := H.alloc _ _
    replace H := H.litOwn (c := 1) (by simp) (by simp)
    refine hK.out _ _ (fun _ => by (try dsimp only); exact H.1) ?_
    clear hK K
    (try simp only [Act.put, qI, qO, qU])
    clear hHeld
    generalize u.alloc (.cells #[.int .i64 f, .int .i64 k.g, .int .i64 k.lev, .int .i64 k.role, .slice (some ⟨gm, 0, none⟩) 8 8] 115) = u' at *
    generalize u.heap.size = gg at *
    clear u
    obtain ⟨u, hu⟩ : ∃ u, u' = u := ⟨_, rfl⟩
    rw [hu] at H ⊢
    clear hu u'
    have hHeld := H.1
    refine lrdy 6 fun K hK => ?_
    refine step_append_G (E := rpE) (some 64) rfl rfl (.tmp 59) (.tmp 63) 110 rfl 115 (.agg #[.int .i64 0, .int .i64 0, .int .i64 0, .int .i64 0, .slice none 0 0]) 56 Tryz.underlying110 Page14_info rfl (.slice (some ⟨ga, 0, none⟩) 0 0) [] rfl (H.pick 2 rfl).own LA s.L.length lc (rowsR s.L R) rfl ((h3.hl.new H.1).src) hRl (by simp; omega) (fun v' u' ho5 hc5 hb5 => ?_)
    rw [List.nil_append] at ho5
    obtain ⟨A5, c5, rfl, hx1, hx2⟩ := ho5.form
    clear hx1 hx2
    rw [hRl] at ho5 hb5 ⊢
    replace H := (H.pick 2 rfl).app ho5 hc5 hb5
    clear ho5 hc5 hb5
    refine hK.out _ _ (fun _ => by (try dsimp only); exact H.1) ?_
    clear hK K
    (try simp only [Act.put, qI, qO, qU])
    clear hHeld u
    obtain ⟨u, hu⟩ : ∃ u, u' = u := ⟨_, rfl⟩
    rw [hu] at H ⊢
    clear hu u'
    have hHeld := H.1
    refine lrdy 12 fun K hK => ?_
    refine step_append_G (E := rpE) (some 70) rfl rfl (.tmp 64) (.tmp 69) 110 rfl 115 (.agg #[.int .i64 0, .int .i64 0, .int .i64 0, .int .i64 0, .slice none 0 0]) 56 Tryz.underlying110 Page14_info rfl (.slice A5 s.L.length c5) (rowsR s.L R) rfl (H.pick 0 rfl).own (some ⟨gg, 0, none⟩) 1 1 [(f, k, (some ⟨gm, 0, none⟩, 8))] rfl ((H.pick 1 rfl).own.src) rfl (by rw [hRl]; omega) (fun v' u' ho5 hc5 hb5 => ?_)
    obtain ⟨A6, c6, rfl, hx1, hx2⟩ := ho5.form
    clear hx1 hx2
    have hl6 : (rowsR s.L R ++ [(f, k, ((some ⟨gm, 0, none⟩ : Option Addr), 8))]).length = s.L.length + 1 := by rw [List.length_append, hRl]; rfl
    rw [hl6] at ho5 hb5 ⊢
    replace H := (H.pick 0 rfl).app ho5 hc5 hb5
    clear ho5 hc5 hb5 hl6
    refine hK.out _ _ (fun _ => by (try dsimp only); exact H.1) ?_
    clear hK K
    (try simp only [Act.put, qI, qO, qU])
    clear hHeld u
    have hqu := hst3.chg_ H.1 (by simp)
    have c2 := hqu.cell 2; have f2 := hqu.frozen 2
    simp only [qA, qZ, qS] at c2
    refine lrdy 13 fun K hK => ?_
    go_simp
    refine hK.out _ _ (fun _ => by (try dsimp only); exact H.1) ?_
    clear hK K
    (try simp only [Act.put, qI, qO, qU])
    refine lrdy 14 fun K hK => ?_
    go_simp
    refine hK.out _ _ (fun _ => by (try dsimp only); exact H.1) ?_
    clear hK K
    (try simp only [Act.put, qI, qO, qU])
    refine lrdy 15 fun K hK => ?_
    go_simp
    refine hK.out _ _ (fun e => absurd rfl e) ?_
    clear hK K
    (try simp only [Act.put, qI, qO, qU])
    refine late_done (by kernel_rfl) ?_ _
    refine NoPanic.normal ?_
    have hmore := (h3.new H.1).more (p := ⟨f, k, List.replicate 8 Slt.no⟩) (r := (some ⟨gm, 0, none⟩, 8)) (H.pick 0 rfl).own (H.pick 2 rfl).own
    have hA6 : ∀ g ∈ lB A6, w.heap.size ≤ g := fun g hg => by
     obtain ⟨S_, ⟨e_, _⟩, hS_⟩ := H.fst
     have := hS_ g (by rw [e_]; cases A6 <;> exact hg)
     have := y03.size; omega
    have hgm : w.heap.size ≤ gm := by
     obtain ⟨S_, ⟨e_, _⟩, hS_⟩ := (H.pick 2 rfl).fst
     have := hS_ gm (by rw [e_]; simp [Value.ownBlock])
     have := y03.size; omega
    have hyv : Chg (rb :: q :: FS) w (u'.setCell ⟨q, 2, none⟩ (.slice A6 (s.L.length + 1) c6)) := ((y03.weak (fun i_ _ hi_ => by simp [hi_])).trans H.1 (by simp)).setCell (p := ⟨q, 2, none⟩) (by simp) _
    clear hqu c2 f2 H h3 hst3 kb3 hRl
    generalize u'.setCell ⟨q, 2, none⟩ (.slice A6 (s.L.length + 1) c6) = v0 at *
    clear u'
    go_wp2_with fail
    go_loopw [10] (fun s10 wr => ∃ j : Nat, j ≤ 8 ∧ s10 = .int .i64 j ∧ RStX wr q rp rb fp n a m ⟨s.L ++ [⟨f, k, List.replicate 8 Slt.no⟩], s.fr.dropLast, K j⟩ A6 c6 (R ++ [(some ⟨gm, 0, none⟩, 8)]) FS ∧ Chg (rb :: q :: FS) w wr) (fun s10 _ => 8 - (intOf s10).toNat)
    case atStart => exact ⟨0, by omega, rfl, hmore, hyv⟩
    obtain ⟨j, hj, rfl, hr, y⟩ := hrel
    clear hmore hyv
    by_cases hlt : j < 8
    ·have hjz : (j : Int) < 8 := by omega
     have hset := RSet_at rp rb n (K j) f j 0 wr hr.hm
     rw [← hKs] at hset
     have c0 := hr.st.cell 0
     simp only [qA, qZ] at c0
     go_wp2_with fail
     refine hset.mono ?_; rintro e w9 ⟨rfl, y9, hm9⟩
     have hr9 := hr.words y9 hm9
     clear hset c0 hr
     go_wp2_with fail
     go_roundw
     case rel => exact ⟨j + 1, by omega, by go_num, hr9, y.trans y9 (fun i_ _ hi_ => by simp only [List.mem_singleton] at hi_; subst hi_; simp)⟩
     case measure => simp [intOf]; omega
    obtain rfl : j = 8 := by omega
    have hjz : ¬ ((8 : Nat) : Int) < 8 := by omega
    go_wp2_with fail
    go_ret2
    refine ⟨by (first | (rw [hmv.out, hmt.out]; rfl) | (rw [hmv.out]; rfl)), A6, c6, _, FS, by rw [hK8.out] at hr; exact hr, y.weak (fun i_ _ hi_ => by simp only [List.mem_cons, List.mem_append] at hi_ ⊢; rcases hi_ with h_ | h_ | h_ <;> simp [h_]), fun g_ hg_ => ?_, fun r_ hr_ => ?_⟩
    ·rw [List.mem_append] at hg_
     rcases hg_ with h_ | h_
     ·exact .inr (hA6 g_ h_)
     exact .inl (by simp [h_])
    rw [List.mem_append] at hr_
    rcases hr_ with h_ | h_
    ·exact .inl h_
    rw [List.mem_singleton] at h_; subst h_; exact .inr ⟨gm, rfl, hgm⟩
   go_simp
   replace H : SepC w3 (u.alloc (.cells slots8.toArray 72)) (blkT u.heap.size 72 (sltE.all (List.replicate 8 Slt.no)).toArray :: _) := H.alloc _ _
   replace H := H.litOwn (c := 8) (by simp) (by simp)
   refine hK.out _ _ (fun _ => by (try dsimp only); exact H.1) ?_
   clear hK K
   (try simp only [Act.put, qI, qO, qU])
   clear hHeld
   generalize u.alloc (.cells slots8.toArray 72) = u' at *
   generalize u.heap.size = gm at *
   clear u
   obtain ⟨u, hu⟩ : ∃ u, u' = u := ⟨_, rfl⟩
   rw [hu] at H ⊢
   clear hu u'
   have hHeld := H.1
   (refine lk 10 68 ?_ ?_ ?_; rotate_left; · (intro w hSw; go_simp; (try with_reducible rfl)))
   (try simp only [Act.put, qI, qO, qU])
   refine late_ready (rs := [1, 11]) (by kernel_rfl) (by simp) ?_; refine AllLate.cons (o := _) rfl (fun K hK => ?_) (AllLate.cons (o := _) rfl (fun K hK => ?_) AllLate.nil)
   ·go_simp
    replace H : SepC w3 (u.alloc (.cells #[] 115)) (blkT u.heap.size 115 (rpE.all []).toArray :: _) := H.alloc _ _
    replace H := H.litOwn (c := 0) (by simp) (by simp)
    refine hK.out _ _ (fun _ => by (try dsimp only); exact H.1) ?_
    clear hK K
    (try simp only [Act.put, qI, qO, qU])
    clear hHeld
    generalize u.alloc (.cells #[] 115) = u' at *
    generalize u.heap.size = ga at *
    clear u
    obtain ⟨u, hu⟩ : ∃ u, u' = u := ⟨_, rfl⟩
    rw [hu] at H ⊢
    clear hu u'
    have hHeld := H.1
    refine late_ready (rs := [6, 11]) (by kernel_rfl) (by simp) ?_; refine AllLate.cons (o := _) rfl (fun K hK => ?_) (AllLate.cons (o := _) rfl (fun K hK => ?_) AllLate.nil)
    ·refine step_append_G (E := rpE) (some 64) rfl rfl (.tmp 59) (.tmp 63) 110 rfl 115 (.agg #[.int .i64 0, .int .i64 0, .int .i64 0, .int .i64 0, .slice none 0 0]) 56 Tryz.underlying110 Page14_info rfl (.slice (some ⟨ga, 0, none⟩) 0 0) [] rfl (H.pick 0 rfl).own LA s.L.length lc (rowsR s.L R) rfl ((h3.hl.new H.1).src) hRl (by simp; omega) (fun v' u' ho5 hc5 hb5 => ?_)
     rw [List.nil_append] at ho5
     obtain ⟨A5, c5, rfl, hx1, hx2⟩ := ho5.form
     clear hx1 hx2
     rw [hRl] at ho5 hb5 ⊢
     replace H := (H.pick 0 rfl).app ho5 hc5 hb5
     clear ho5 hc5 hb5
     refine hK.out _ _ (fun _ => by (try dsimp only); exact H.1) ?_
     clear hK K
     (try simp only [Act.put, qI, qO, qU])
     clear hHeld u
     obtain ⟨u, hu⟩ : ∃ u, u' = u := ⟨_, rfl⟩
     rw [hu] at H ⊢
     clear hu u'
     have hHeld := H.1
     refine lrdy 11 fun K hK => ?_
     go_simp
     replace H : SepC w3 (u.alloc (.cells #[.int .i64 f, .int .i64 k.g, .int .i64 k.lev, .int .i64 k.role, .slice (some ⟨gm, 0, none⟩) 8 8] 115)) (blkT u.heap.size 115 (rpE.all [(f, k, (some ⟨gm, 0, none⟩, 8))]).toArray :: _) := H.alloc _ _
     replace H := H.litOwn (c := 1) (by simp) (by simp)
     refine hK.out _ _ (fun _ => by (try dsimp only); exact H.1) ?_
     clear hK K
     (try simp only [Act.put, qI, qO, qU])
     clear hHeld
     generalize u.alloc (.cells #[.int .i64 f, .int .i64 k.g, .int .i64 k.lev, .int .i64 k.role, .slice (some ⟨gm, 0, none⟩) 8 8] 115) = u' at *
     generalize u.heap.size = gg at *
     clear u
     obtain ⟨u, hu⟩ : ∃ u, u' = u := ⟨_, rfl⟩
     rw [hu] at H ⊢
     clear hu u'
     have hHeld := H.1
     refine lrdy 12 fun K hK => ?_
     refine step_append_G (E := rpE) (some 70) rfl rfl (.tmp 64) (.tmp 69) 110 rfl 115 (.agg #[.int .i64 0, .int .i64 0, .int .i64 0, .int .i64 0, .slice none 0 0]) 56 Tryz.underlying110 Page14_info rfl (.slice A5 s.L.length c5) (rowsR s.L R) rfl (H.pick 1 rfl).own (some ⟨gg, 0, none⟩) 1 1 [(f, k, (some ⟨gm, 0, none⟩, 8))] rfl ((H.pick 0 rfl).own.src) rfl (by rw [hRl]; omega) (fun v' u' ho5 hc5 hb5 => ?_)
     obtain ⟨A6, c6, rfl, hx1, hx2⟩ := ho5.form
     clear hx1 hx2
     have hl6 : (rowsR s.L R ++ [(f, k, ((some ⟨gm, 0, none⟩ : Option Addr), 8))]).length = s.L.length + 1 := by rw [List.length_append, hRl]; rfl
     rw [hl6] at ho5 hb5 ⊢
     replace H := (H.pick 1 rfl).app ho5 hc5 hb5
     clear ho5 hc5 hb5 hl6
     refine hK.out _ _ (fun _ => by (try dsimp only); exact H.1) ?_
     clear hK K
     (try simp only [Act.put, qI, qO, qU])
     clear hHeld u
     have hqu := hst3.chg_ H.1 (by simp)
     have c2 := hqu.cell 2; have f2 := hqu.frozen 2
     simp only [qA, qZ, qS] at c2
     refine lrdy 13 fun K hK => ?_
     go_simp
     refine hK.out _ _ (fun _ => by (try dsimp only); exact H.1) ?_
     clear hK K
     (try simp only [Act.put, qI, qO, qU])
     refine lrdy 14 fun K hK => ?_
     go_simp
     refine hK.out _ _ (fun _ => by (try dsimp only); exact H.1) ?_
     clear hK K
     (try simp only [Act.put, qI, qO, qU])
     refine lrdy 15 fun K hK => ?_
     go_simp
     refine hK.out _ _ (fun e => absurd rfl e) ?_
     clear hK K
     (try simp only [Act.put, qI, qO, qU])
     refine late_done (by kernel_rfl) ?_ _
     refine NoPanic.normal ?_
     have hmore := (h3.new H.1).more (p := ⟨f, k, List.replicate 8 Slt.no⟩) (r := (some ⟨gm, 0, none⟩, 8)) (H.pick 0 rfl).own (H.pick 2 rfl).own
     have hA6 : ∀ g ∈ lB A6, w.heap.size ≤ g := fun g hg => by
      obtain ⟨S_, ⟨e_, _⟩, hS_⟩ := H.fst
      have := hS_ g (by rw [e_]; cases A6 <;> exact hg)
      have := y03.size; omega
     have hgm : w.heap.size ≤ gm := by
      obtain ⟨S_, ⟨e_, _⟩, hS_⟩ := (H.pick 2 rfl).fst
      have := hS_ gm (by rw [e_]; simp [Value.ownBlock])
      have := y03.size; omega
     have hyv : Chg (rb :: q :: FS) w (u'.setCell ⟨q, 2, none⟩ (.slice A6 (s.L.length + 1) c6)) := ((y03.weak (fun i_ _ hi_ => by simp [hi_])).trans H.1 (by simp)).setCell (p := ⟨q, 2, none⟩) (by simp) _
     clear hqu c2 f2 H h3 hst3 kb3 hRl
     generalize u'.setCell ⟨q, 2, none⟩ (.slice A6 (s.L.length + 1) c6) = v0 at *
     clear u'
     go_wp2_with fail
     go_loopw [10] (fun s10 wr => ∃ j : Nat, j ≤ 8 ∧ s10 = .int .i64 j ∧ RStX wr q rp rb fp n a m ⟨s.L ++ [⟨f, k, List.replicate 8 Slt.no⟩], s.fr.dropLast, K j⟩ A6 c6 (R ++ [(some ⟨gm, 0, none⟩, 8)]) FS ∧ Chg (rb :: q :: FS) w wr) (fun s10 _ => 8 - (intOf s10).toNat)
     case atStart => exact ⟨0, by omega, rfl, hmore, hyv⟩
     obtain ⟨j, hj, rfl, hr, y⟩ := hrel
     clear hmore hyv
     by_cases hlt : j < 8
     ·have hjz : (j : Int) < 8 := by omega
      have hset := RSet_at rp rb n (K j) f j 0 wr hr.hm
      rw [← hKs] at hset
      have c0 := hr.st.cell 0
      simp only [qA, qZ] at c0
      go_wp2_with fail
      refine hset.mono ?_; rintro e w9 ⟨rfl, y9, hm9⟩
      have hr9 := hr.words y9 hm9
      clear hset c0 hr
      go_wp2_with fail
      go_roundw
      case rel => exact ⟨j + 1, by omega, by go_num, hr9, y.trans y9 (fun i_ _ hi_ => by simp only [List.mem_singleton] at hi_; subst hi_; simp)⟩
      case measure => simp [intOf]; omega
     obtain rfl : j = 8 := by omega
     have hjz : ¬ ((8 : Nat) : Int) < 8 := by omega
     go_wp2_with fail
     go_ret2
     refine ⟨by (first | (rw [hmv.out, hmt.out]; rfl) | (rw [hmv.out]; rfl)), A6, c6, _, FS, by rw [hK8.out] at hr; exact hr, y.weak (fun i_ _ hi_ => by simp only [List.mem_cons, List.mem_append] at hi_ ⊢; rcases hi_ with h_ | h_ | h_ <;> simp [h_]), fun g_ hg_ => ?_, fun r_ hr_ => ?_⟩
     ·rw [List.mem_append] at hg_
      rcases hg_ with h_ | h_
      ·exact .inr (hA6 g_ h_)
      exact .inl (by simp [h_])
     rw [List.mem_append] at hr_
     rcases hr_ with h_ | h_
     ·exact .inl h_
     rw [List.mem_singleton] at h_; subst h_; exact .inr ⟨gm, rfl, hgm⟩
    go_simp
    replace H : SepC w3 (u.alloc (.cells #[.int .i64 f, .int .i64 k.g, .int .i64 k.lev, .int .i64 k.role, .slice (some ⟨gm, 0, none⟩) 8 8] 115)) (blkT u.heap.size 115 (rpE.all [(f, k, (some ⟨gm, 0, none⟩, 8))]).toArray :: _) := H.alloc _ _
    replace H := H.litOwn (c := 1) (by simp) (by simp)
    refine hK.out _ _ (fun _ => by (try dsimp only); exact H.1) ?_
    clear hK K
    (try simp only [Act.put, qI, qO, qU])
    clear hHeld
    generalize u.alloc (.cells #[.int .i64 f, .int .i64 k.g, .int .i64 k.lev, .int .i64 k.role, .slice (some ⟨gm, 0, none⟩) 8 8] 115) = u' at *
    generalize u.heap.size = gg at *
    clear u
    obtain ⟨u, hu⟩ : ∃ u, u' = u := ⟨_, rfl⟩
    rw [hu] at H ⊢
    clear hu u'
    have hHeld := H.1
    refine lrdy 6 fun K hK => ?_
    refine step_append_G (E := rpE) (some 64) rfl rfl (.tmp 59) (.tmp 63) 110 rfl 115 (.agg #[.int .i64 0, .int .i64 0, .int .i64 0, .int .i64 0, .slice none 0 0]) 56 Tryz.underlying110 Page14_info rfl (.slice (some ⟨ga, 0, none⟩) 0 0) [] rfl (H.pick 1 rfl).own LA s.L.length lc (rowsR s.L R) rfl ((h3.hl.new H.1).src) hRl (by simp; omega) (fun v' u' ho5 hc5 hb5 => ?_)
    rw [List.nil_append] at ho5
    obtain ⟨A5, c5, rfl, hx1, hx2⟩ := ho5.form
    clear hx1 hx2
    rw [hRl] at ho5 hb5 ⊢
    replace H := (H.pick 1 rfl).app ho5 hc5 hb5
    clear ho5 hc5 hb5
    refine hK.out _ _ (fun _ => by (try dsimp only); exact H.1) ?_
    clear hK K
    (try simp only [Act.put, qI, qO, qU])
    clear hHeld u
    obtain ⟨u, hu⟩ : ∃ u, u' = u := ⟨_, rfl⟩
    rw [hu] at H ⊢
    clear hu u'
    have hHeld := H.1
    refine lrdy 12 fun K hK => ?_
    refine step_append_G (E := rpE) (some 70) rfl rfl (.tmp 64) (.tmp 69) 110 rfl 115 (.agg #[.int .i64 0, .int .i64 0, .int .i64 0, .int .i64 0, .slice none 0 0]) 56 Tryz.underlying110 Page14_info rfl (.slice A5 s.L.length c5) (rowsR s.L R) rfl (H.pick 0 rfl).own (some ⟨gg, 0, none⟩) 1 1 [(f, k, (some ⟨gm, 0, none⟩, 8))] rfl ((H.pick 1 rfl).own.src) rfl (by rw [hRl]; omega) (fun v' u' ho5 hc5 hb5 => ?_)
    obtain ⟨A6, c6, rfl, hx1, hx2⟩ := ho5.form
    clear hx1 hx2
    have hl6 : (rowsR s.L R ++ [(f, k, ((some ⟨gm, 0, none⟩ : Option Addr), 8))]).length = s.L.length + 1 := by rw [List.length_append, hRl]; rfl
    rw [hl6] at ho5 hb5 ⊢
    replace H := (H.pick 0 rfl).app ho5 hc5 hb5
    clear ho5 hc5 hb5 hl6
    refine hK.out _ _ (fun _ => by (try dsimp only); exact H.1) ?_
    clear hK K
    (try simp only [Act.put, qI, qO, qU])
    clear hHeld u
    have hqu := hst3.chg_ H.1 (by simp)
    have c2 := hqu.cell 2; have f2 := hqu.frozen 2
    simp only [qA, qZ, qS] at c2
    refine lrdy 13 fun K hK => ?_
    go_simp
    refine hK.out _ _ (fun _ => by (try dsimp only); exact H.1) ?_
    clear hK K
    (try simp only [Act.put, qI, qO, qU])
    refine lrdy 14 fun K hK => ?_
    go_simp
    refine hK.out _ _ (fun _ => by (try dsimp only); exact H.1) ?_
    clear hK K
    (try simp only [Act.put, qI, qO, qU])
    refine lrdy 15 fun K hK => ?_
    go_simp
    refine hK.out _ _ (fun e => absurd rfl e) ?_
    clear hK K
    (try simp only [Act.put, qI, qO, qU])
    refine late_done (by kernel_rfl) ?_ _
    refine NoPanic.normal ?_
    have hmore := (h3.new H.1).more (p := ⟨f, k, List.replicate 8 Slt.no⟩) (r := (some ⟨gm, 0, none⟩, 8)) (H.pick 0 rfl).own (H.pick 2 rfl).own
    have hA6 : ∀ g ∈ lB A6, w.heap.size ≤ g := fun g hg => by
     obtain ⟨S_, ⟨e_, _⟩, hS_⟩ := H.fst
     have := hS_ g (by rw [e_]; cases A6 <;> exact hg)
     have := y03.size; omega
    have hgm : w.heap.size ≤ gm := by
     obtain ⟨S_, ⟨e_, _⟩, hS_⟩ := (H.pick 2 rfl).fst
     have := hS_ gm (by rw [e_]; simp [Value.ownBlock])
     have := y03.size; omega
    have hyv : Chg (rb :: q :: FS) w (u'.setCell ⟨q, 2, none⟩ (.slice A6 (s.L.length + 1) c6)) := ((y03.weak (fun i_ _ hi_ => by simp [hi_])).trans H.1 (by simp)).setCell (p := ⟨q, 2, none⟩) (by simp) _
    clear hqu c2 f2 H h3 hst3 kb3 hRl
    generalize u'.setCell ⟨q, 2, none⟩ (.slice A6 (s.L.length + 1) c6) = v0 at *
    clear u'
    go_wp2_with fail
    go_loopw [10] (fun s10 wr => ∃ j : Nat, j ≤ 8 ∧ s10 = .int .i64 j ∧ RStX wr q rp rb fp n a m ⟨s.L ++ [⟨f, k, List.replicate 8 Slt.no⟩], s.fr.dropLast, K j⟩ A6 c6 (R ++ [(some ⟨gm, 0, none⟩, 8)]) FS ∧ Chg (rb :: q :: FS) w wr) (fun s10 _ => 8 - (intOf s10).toNat)
    case atStart => exact ⟨0, by omega, rfl, hmore, hyv⟩
    obtain ⟨j, hj, rfl, hr, y⟩ := hrel
    clear hmore hyv
    by_cases hlt : j < 8
    ·have hjz : (j : Int) < 8 := by omega
     have hset := RSet_at rp rb n (K j) f j 0 wr hr.hm
     rw [← hKs] at hset
     have c0 := hr.st.cell 0
     simp only [qA, qZ] at c0
     go_wp2_with fail
     refine hset.mono ?_; rintro e w9 ⟨rfl, y9, hm9⟩
     have hr9 := hr.words y9 hm9
     clear hset c0 hr
     go_wp2_with fail
     go_roundw
     case rel => exact ⟨j + 1, by omega, by go_num, hr9, y.trans y9 (fun i_ _ hi_ => by simp only [List.mem_singleton] at hi_; subst hi_; simp)⟩
     case measure => simp [intOf]; omega
    obtain rfl : j = 8 := by omega
    have hjz : ¬ ((8 : Nat) : Int) < 8 := by omega
    go_wp2_with fail
    go_ret2
    refine ⟨by (first | (rw [hmv.out, hmt.out]; rfl) | (rw [hmv.out]; rfl)), A6, c6, _, FS, by rw [hK8.out] at hr; exact hr, y.weak (fun i_ _ hi_ => by simp only [List.mem_cons, List.mem_append] at hi_ ⊢; rcases hi_ with h_ | h_ | h_ <;> simp [h_]), fun g_ hg_ => ?_, fun r_ hr_ => ?_⟩
    ·rw [List.mem_append] at hg_
     rcases hg_ with h_ | h_
     ·exact .inr (hA6 g_ h_)
     exact .inl (by simp [h_])
    rw [List.mem_append] at hr_
    rcases hr_ with h_ | h_
    ·exact .inl h_
    rw [List.mem_singleton] at h_; subst h_; exact .inr ⟨gm, rfl, hgm⟩
   go_simp
   replace H : SepC w3 (u.alloc (.cells #[.int .i64 f, .int .i64 k.g, .int .i64 k.lev, .int .i64 k.role, .slice (some ⟨gm, 0, none⟩) 8 8] 115)) (blkT u.heap.size 115 (rpE.all [(f, k, (some ⟨gm, 0, none⟩, 8))]).toArray :: _) := H.alloc _ _
   replace H := H.litOwn (c := 1) (by simp) (by simp)
   refine hK.out _ _ (fun _ => by (try dsimp only); exact H.1) ?_
   clear hK K
   (try simp only [Act.put, qI, qO, qU])
   clear hHeld
   generalize u.alloc (.cells #[.int .i64 f, .int .i64 k.g, .int .i64 k.lev, .int .i64 k.role, .slice (some ⟨gm, 0, none⟩) 8 8] 115) = u' at *
   generalize u.heap.size = gg at *
   clear u
   obtain ⟨u, hu⟩ : ∃ u, u' = u := ⟨_, rfl⟩
   rw [hu] at H ⊢
   clear hu u'
   have hHeld := H.1
   refine lrdy 1 fun K hK => ?_
   go_simp
   replace H : SepC w3 (u.alloc (.cells #[] 115)) (blkT u.heap.size 115 (rpE.all []).toArray :: _) := H.alloc _ _
   replace H := H.litOwn (c := 0) (by simp) (by simp)
   refine hK.out _ _ (fun _ => by (try dsimp only); exact H.1) ?_
   clear hK K
   (try simp only [Act.put, qI, qO, qU])
   clear hHeld
   generalize u.alloc (.cells #[] 115) = u' at *
   generalize u.heap.size = ga at *
   clear u
   obtain ⟨u, hu⟩ : ∃ u, u' = u := ⟨_, rfl⟩
   rw [hu] at H ⊢
   clear hu u'
   have hHeld := H.1
   refine lrdy 6 fun K hK => ?_
   refine step_append_G (E := rpE) (some 64) rfl rfl (.tmp 59) (.tmp 63) 110 rfl 115 (.agg #[.int .i64 0, .int .i64 0, .int .i64 0, .int .i64 0, .slice none 0 0]) 56 Tryz.underlying110 Page14_info rfl (.slice (some ⟨ga, 0, none⟩) 0 0) [] rfl (H.pick 0 rfl).own LA s.L.length lc (rowsR s.L R) rfl ((h3.hl.new H.1).src) hRl (by simp; omega) (fun v' u' ho5 hc5 hb5 => ?_)
   rw [List.nil_append] at ho5
   obtain ⟨A5, c5, rfl, hx1, hx2⟩ := ho5.form
   clear hx1 hx2
   rw [hRl] at ho5 hb5 ⊢
   replace H := (H.pick 0 rfl).app ho5 hc5 hb5
   clear ho5 hc5 hb5
   refine hK.out _ _ (fun _ => by (try dsimp only); exact H.1) ?_
   clear hK K
   (try simp only [Act.put, qI, qO, qU])
   clear hHeld u
   obtain ⟨u, hu⟩ : ∃ u, u' = u := ⟨_, rfl⟩
   rw [hu] at H ⊢
   clear hu u'
   have hHeld := H.1
   refine lrdy 12 fun K hK => ?_
   refine step_append_G (E := rpE) (some 70) rfl rfl (.tmp 64) (.tmp 69) 110 rfl 115 (.agg #[.int .i64 0, .int .i64 0, .int .i64 0, .int .i64 0, .slice none 0 0]) 56 Tryz.underlying110 Page14_info rfl (.slice A5 s.L.length c5) (rowsR s.L R) rfl (H.pick 0 rfl).own (some ⟨gg, 0, none⟩) 1 1 [(f, k, (some ⟨gm, 0, none⟩, 8))] rfl ((H.pick 1 rfl).own.src) rfl (by rw [hRl]; omega) (fun v' u' ho5 hc5 hb5 => ?_)
   obtain ⟨A6, c6, rfl, hx1, hx2⟩ := ho5.form
   clear hx1 hx2
   have hl6 : (rowsR s.L R ++ [(f, k, ((some ⟨gm, 0, none⟩ : Option Addr), 8))]).length = s.L.length + 1 := by rw [List.length_append, hRl]; rfl
   rw [hl6] at ho5 hb5 ⊢
   replace H := (H.pick 0 rfl).app ho5 hc5 hb5
   clear ho5 hc5 hb5 hl6
   refine hK.out _ _ (fun _ => by (try dsimp only); exact H.1) ?_
   clear hK K
   (try simp only [Act.put, qI, qO, qU])
   clear hHeld u
   have hqu := hst3.chg_ H.1 (by simp)
   have c2 := hqu.cell 2; have f2 := hqu.frozen 2
   simp only [qA, qZ, qS] at c2
   refine lrdy 13 fun K hK => ?_
   go_simp
   refine hK.out _ _ (fun _ => by (try dsimp only); exact H.1) ?_
   clear hK K
   (try simp only [Act.put, qI, qO, qU])
   refine lrdy 14 fun K hK => ?_
   go_simp
   refine hK.out _ _ (fun _ => by (try dsimp only); exact H.1) ?_
   clear hK K
   (try simp only [Act.put, qI, qO, qU])
   refine lrdy 15 fun K hK => ?_
   go_simp
   refine hK.out _ _ (fun e => absurd rfl e) ?_
   clear hK K
   (try simp only [Act.put, qI, qO, qU])
   refine late_done (by kernel_rfl) ?_ _
   refine NoPanic.normal ?_
   have hmore := (h3.new H.1).more (p := ⟨f, k, List.replicate 8 Slt.no⟩) (r := (some ⟨gm, 0, none⟩, 8)) (H.pick 0 rfl).own (H.pick 2 rfl).own
   have hA6 : ∀ g ∈ lB A6, w.heap.size ≤ g := fun g hg => by
    obtain ⟨S_, ⟨e_, _⟩, hS_⟩ := H.fst
    have := hS_ g (by rw [e_]; cases A6 <;> exact hg)
    have := y03.size; omega
   have hgm : w.heap.size ≤ gm := by
    obtain ⟨S_, ⟨e_, _⟩, hS_⟩ := (H.pick 2 rfl).fst
    have := hS_ gm (by rw [e_]; simp [Value.ownBlock])
    have := y03.size; omega
   have hyv : Chg (rb :: q :: FS) w (u'.setCell ⟨q, 2, none⟩ (.slice A6 (s.L.length + 1) c6)) := ((y03.weak (fun i_ _ hi_ => by simp [hi_])).trans H.1 (by simp)).setCell (p := ⟨q, 2, none⟩) (by simp) _
   clear hqu c2 f2 H h3 hst3 kb3 hRl
   generalize u'.setCell ⟨q, 2, none⟩ (.slice A6 (s.L.length + 1) c6) = v0 at *
   clear u'
   go_wp2_with fail
   go_loopw [10] (fun s10 wr => ∃ j : Nat, j ≤ 8 ∧ s10 = .int .i64 j ∧ RStX wr q rp rb fp n a m ⟨s.L ++ [⟨f, k, List.replicate 8 Slt.no⟩], s.fr.dropLast, K j⟩ A6 c6 (R ++ [(some ⟨gm, 0, none⟩, 8)]) FS ∧ Chg (rb :: q :: FS) w wr) (fun s10 _ => 8 - (intOf s10).toNat)
   case atStart => exact ⟨0, by omega, rfl, hmore, hyv⟩
   obtain ⟨j, hj, rfl, hr, y⟩ := hrel
   clear hmore hyv
   by_cases hlt : j < 8
   ·have hjz : (j : Int) < 8 := by omega
    have hset := RSet_at rp rb n (K j) f j 0 wr hr.hm
    rw [← hKs] at hset
    have c0 := hr.st.cell 0
    simp only [qA, qZ] at c0
    go_wp2_with fail
    refine hset.mono ?_; rintro e w9 ⟨rfl, y9, hm9⟩
    have hr9 := hr.words y9 hm9
    clear hset c0 hr
    go_wp2_with fail
    go_roundw
    case rel => exact ⟨j + 1, by omega, by go_num, hr9, y.trans y9 (fun i_ _ hi_ => by simp only [List.mem_singleton] at hi_; subst hi_; simp)⟩
    case measure => simp [intOf]; omega
   obtain rfl : j = 8 := by omega
   have hjz : ¬ ((8 : Nat) : Int) < 8 := by omega
   go_wp2_with fail
   go_ret2
   refine ⟨by (first | (rw [hmv.out, hmt.out]; rfl) | (rw [hmv.out]; rfl)), A6, c6, _, FS, by rw [hK8.out] at hr; exact hr, y.weak (fun i_ _ hi_ => by simp only [List.mem_cons, List.mem_append] at hi_ ⊢; rcases hi_ with h_ | h_ | h_ <;> simp [h_]), fun g_ hg_ => ?_, fun r_ hr_ => ?_⟩
   ·rw [List.mem_append] at hg_
    rcases hg_ with h_ | h_
    ·exact .inr (hA6 g_ h_)
    exact .inl (by simp [h_])
   rw [List.mem_append] at hr_
   rcases hr_ with h_ | h_
   ·exact .inl h_
   rw [List.mem_singleton] at h_; subst h_; exact .inr ⟨gm, rfl, hgm⟩
  have htv : takeV s.fr = 0 := by unfold takeV; rw [List.isEmpty_iff.1 hem]; rfl
  have htb : takeB s.fr = false := by unfold takeB; rw [hem]; rfl
  rw [htv, htb] at hlast
  have hmB' : makeB s k = false := by rw [hmB, hem]; rfl
  obtain ⟨e1, e2⟩ := hno hmB'
  rw [e1, e2, hmB']
  have hsn : s.fr.dropLast = s.fr := by rw [List.isEmpty_iff.1 hem]; rfl
  rw [hsn] at hlast
  clear hno hmB hmB' e1 e2 hem htv htb hsn
  go_enter Tryz.func97, Tryz.ntmps97
  go_wp2_with fail
  refine (hfd _ y0).mono ?_; rintro e w2 ⟨rfl, y2⟩
  have kb2 := kb0.chg_ y2 (by simp)
  have z2 := y0.trans y2 (by simp)
  clear hfd x0 x1 x2
  obtain ⟨kb, hkb⟩ : ∃ kb, w.heap.size = kb := ⟨_, rfl⟩
  rw [hkb] at kb2 hkl ⊢
  have hkb2 := Nat.lt_of_lt_of_le hkl y2.size
  clear y2 kb0 hkl
  clear y0
  replace hkb := Lib.hid hkb
  have x0 := kb2.cell 0; have x1 := kb2.cell 1; have x2 := kb2.cell 2
  simp only [qA, qZ, qS] at x0 x1 x2
  have q1 := hf1 _ z2
  go_wp2_with fail
  refine (hlast _ z2).mono ?_; rintro e w3 ⟨rfl, y3, hf3⟩
  have h3 := (h.new z2).frees y3 hf3
  go_wp2_with fail
  go_ret2
  exact ⟨rfl, LA, lc, R, FS, h3, (z2.weak (by simp)).trans (y3.weak (T := rb :: q :: (lB LA ++ FS)) (fun i _ hi => by simp [hi])) (fun _ _ h => h), fun _ h => .inl h, RNew.refl _ _⟩
end
def cutP (A : Option Addr) (cap l s : Nat) : Option Addr := if cap = l then A else A.map (·.add (l * s))
theorem cutP_none {A : Option Addr} {cap l s : Nat} (h : cutP A cap l s = none) : A = none := by
 unfold cutP at h; split at h
 ·exact h
 simpa using h
theorem run_rest {P : Program} (t e : TypeId) (s : Nat) (ht : P.underlying t = some (.slice e)) (hz : ∀ w, (Go.sizeOf e).run P w = .ok s w) (A : Option Addr) (len cap l : Nat) (h1 : l ≤ len) (w : World) :
  (Instr.slice t (.slice A len cap) (some (.int .i64 l)) none none).run P w = .ok (.slice (cutP A cap l s) (len - l) (cap - l)) w := by
 have hel : P.elem t = e := by simp [Program.elem, ht]
 rw [run_slice_l w t A len cap (hel.symm ▸ ht) .i64 l (by omega) (by omega), hel, hz]
 simp [Result.andThen, sliced, cutP]
theorem run_lead {P : Program} (t e : TypeId) (s : Nat) (ht : P.underlying t = some (.slice e)) (hz : ∀ w, (Go.sizeOf e).run P w = .ok s w) (A : Option Addr) (len cap h : Nat) (h2 : h ≤ cap) (w : World) :
  (Instr.slice t (.slice A len cap) none (some (.int .i64 h)) none).run P w = .ok (.slice (cutP A cap 0 s) h cap) w := by
 have hel : P.elem t = e := by simp [Program.elem, ht]
 rw [run_slice_h w t A len cap (hel.symm ▸ ht) .i64 h (by omega) (by omega), hel, hz]
 simp [Result.andThen, sliced, cutP]
theorem SlG.cutp {α : Type} {E : Enc α} {w : World} {A : Option Addr} {n cap : Nat} {L : List α} (h : SlG E w A n L) (l m : Nat) (h1 : l ≤ m) (h2 : m ≤ n) (hc : n ≤ cap) : SlG E w (cutP A cap l E.k) (m - l) ((L.drop l).take (m - l)) := by
 have hl := h.len
 refine ⟨by simp; omega, by have := h.le; omega, fun h0 => ?_⟩
 obtain ⟨b, off, rfl, hb, hr⟩ := h.at_ (by omega)
 refine ⟨b, off + l * E.k, by unfold cutP; rw [if_neg (by omega)]; simp [add_at], hb, fun j x hx => ?_⟩
 rw [List.getElem?_take] at hx
 split at hx
 ·rw [List.getElem?_drop] at hx
  have := hr (l + j) x hx
  rwa [Nat.add_mul, ← Nat.add_assoc] at this
 cases hx
theorem sizePage14 (w : World) : (Go.sizeOf 115).run Tryz.prog w = .ok 5 w := by kernel_rfl
section
variable {q rp rb fp n a m : Nat} {s : Sr} {LA : Option Addr} {lc : Nat} {R : List (Option Addr × Nat)} {FS : List Nat}
theorem rowsR_erase {L : List Pg} {R : List (Option Addr × Nat)} (j : Nat) (h : R.length = L.length) : rowsR (L.eraseIdx j) (R.eraseIdx j) = (rowsR L R).take j ++ (rowsR L R).drop (j + 1) := by
 rw [List.eraseIdx_eq_take_drop_succ, List.eraseIdx_eq_take_drop_succ]
 unfold rowsR
 rw [List.zipWith_append (by simp [h]), List.take_zipWith, List.drop_zipWith]
theorem RStX.less {w : World} (h : RStX w q rp rb fp n a m s LA lc R FS) {A : Option Addr} {c j : Nat} (hj : j < s.L.length) (ho : OwnG rpE w 115 (.slice A (s.L.length - 1) c) ((rowsR s.L R).take j ++ (rowsR s.L R).drop (j + 1))) :
  RStX (w.setCell ⟨q, 2, none⟩ (.slice A (s.L.length - 1) c)) q rp rb fp n a m ⟨s.L.eraseIdx j, s.fr, s.W⟩ A c (R.eraseIdx j) FS := by
 have hc : Chg [q] w (w.setCell ⟨q, 2, none⟩ (.slice A (s.L.length - 1) c)) := (Chg.refl [q] w).setCell (by simp) _
 have hlen := h.len
 have hl1 : (s.L.eraseIdx j).length = s.L.length - 1 := List.length_eraseIdx_of_lt hj
 have hst := h.st.set_ 2 (.slice A (s.L.length - 1) c)
 refine ⟨by show Blk _ q _ #[_, _, .slice A (s.L.eraseIdx j).length c]; rw [hl1]; simpa using hst, h.hm.chg hc (by have := h.hm.st.type_ne h.st (by decide); simpa using this) (by have := h.hm.ws.type_ne h.st (by decide); simpa using this), h.hf.chg hc (h.hf.nb h.st (by decide) (by decide)), ?_, by show (R.eraseIdx j).length = (s.L.eraseIdx j).length; rw [hl1, List.length_eraseIdx_of_lt (by omega), hlen], ?_⟩
 ·show OwnG rpE _ _ (.slice A (s.L.eraseIdx j).length c) (rowsR (s.L.eraseIdx j) (R.eraseIdx j))
  rw [rowsR_erase j hlen, hl1]
  exact ho.chg hc (own_nb ho h.st (by decide))
 intro k q' r' hq hr
 rw [List.getElem?_eraseIdx] at hq hr
 by_cases e : k < j
 ·rw [if_pos e] at hq hr
  exact (h.hs k q' r' hq hr).chg hc (own_nb (h.hs k q' r' hq hr) h.st (by decide))
 rw [if_neg e] at hq hr
 exact (h.hs (k + 1) q' r' hq hr).chg hc (own_nb (h.hs (k + 1) q' r' hq hr) h.st (by decide))
set_option maxRecDepth 100000 in
set_option maxHeartbeats 16000000 in
theorem RDrop_any (p : Int) (w : World) (h : RStX w q rp rb fp n a m s LA lc R FS) (ok : SrOk n a m s) :
  Calls Tryz.prog 109 #[.pointer (some ⟨q, 0, none⟩), .int .i64 p] w (RGo q rp rb fp n a m (dropS s p) LA R FS (.bool (dropB s p)) w) := by
 have hat := Rat_any p w h ok.le256
 rcases at_pg ok p with ⟨hn, P, hP, hP0⟩ | ⟨j, g, hj, hjl, hg, hP, hf, _, _, _⟩
 ·have e1 : dropB s p = false := by unfold dropB; rw [hn]; rfl
  have e2 : dropS s p = s := by unfold dropS; rw [if_neg (by rw [e1]; simp)]
  rw [e1, e2]
  rw [hP] at hat
  have b1 : decide (P < 0) = true := decide_eq_true hP0
  clear e1 e2 hn hP hP0 ok
  go_enter Tryz.func109, Tryz.ntmps109
  go_wp2_with fail
  refine hat.mono ?_; rintro e w2 ⟨rfl, y2⟩
  go_wp2_with fail
  go_ret
  exact RGo.same h y2 _
 have hd : dropB s p = true := by unfold dropB; rw [hg]; rfl
 rw [hP] at hat
 have hjz : decide ((j : Int) < 0) = false := decide_eq_false (by omega)
 have hPar := fun w' (y : Chg [] w w') => Rparents_any p w' (h.new y) ok
 have hT := fun x hx => told_bound ok (kind := 1) (p := p) (x := x) hx
 have hcnt := ok.cnt; have hle := ok.le; have hn6 := ok.n256; have hN6 := ok.le256
 have hTl : (toldP 1 p s.L).length ≤ 100000 := by
  rw [← lnkF_all ok.eight]
  have := lnkF_len 1 p s.L (allI s.L.length)
  unfold allI at this ⊢
  rw [List.length_finRange] at this
  omega
 obtain ⟨T, hTT⟩ : ∃ T, toldP 1 p s.L = T := ⟨_, rfl⟩
 have hdc := drop_clr ok hd
 rw [hTT] at hPar hT hTl hdc
 clear hTT
 have hclr : ∀ (k : Nat) (x : Int × Int), (T ++ own8 p)[k]? = some x → ∀ w' R', RStX w' q rp rb fp n a m (clrN n s ((T ++ own8 p).take k)) LA lc R' FS → Calls Tryz.prog 101 #[.pointer (some ⟨q, 0, none⟩), .int .i64 x.1, .int .i64 x.2] w' fun e w2 => (∃ t, e = .returned (.bool t)) ∧ ∃ R2, RStX w2 q rp rb fp n a m (clrN n s ((T ++ own8 p).take (k + 1))) LA lc R2 FS ∧ Chg (rb :: lB LA) w' w2 ∧ RNew w' R' R2 := by
  intro k x hx w' R' H
  refine (RClear_any x.1 x.2 w' H (clr_ok _ ok)).mono fun e w2 ⟨e1, R2, e2, e3, e4⟩ => ⟨⟨_, e1⟩, R2, ?_, e3, e4⟩
  have hk := (List.getElem?_eq_some_iff.1 hx).1
  rw [List.take_succ_eq_append_getElem hk, clrN_snoc, (List.getElem?_eq_some_iff.1 hx).2]
  exact e2
 have hds := dropS_is hd
 have hmap3 : (wipeS s (goneC s.L p)).L.map Pg.f = s.L.map Pg.f := by unfold wipeS; rw [updS_L]; exact (updP_map s.L _).1
 have hfr3 : (wipeS s (goneC s.L p)).fr = s.fr := rfl
 obtain ⟨s3, hs3⟩ : ∃ s3, wipeS s (goneC s.L p) = s3 := ⟨_, rfl⟩
 rw [hs3] at hds hmap3 hfr3 hdc
 clear hs3
 have hlen3 : s3.L.length = s.L.length := by have := congrArg List.length hmap3; simpa using this
 obtain ⟨g3, hj3⟩ : ∃ g3, s3.L[j]? = some g3 := ⟨_, List.getElem?_eq_getElem (by omega)⟩
 have hg3 : g3.f = p := by have e := congrArg (fun l : List Int => l[j]?) hmap3; simp only [List.getElem?_map, hj3, hj, Option.map_some, Option.some.injEq] at e; rw [e, hf]
 have her : dropS s p = ⟨s3.L.eraseIdx j, s.fr ++ [p], s3.W⟩ := by rw [hds, ← filter_erase (by rw [hmap3]; exact ok.ndL) hj3, hg3]
 rw [hd, her]
 have hgv : giveB a m s.fr p = true := by
  have h1 := ok.inL (List.mem_of_getElem? hj)
  have h2 : p ∉ s.fr := fun hm => (List.nodup_append.1 ok.nd).2.2 g.f (List.mem_map.2 ⟨g, List.mem_of_getElem? hj, rfl⟩) p hm hf
  unfold giveB; rw [hf] at h1; simp [h1, h2]
 have hGv := fun w' (y : RAt w' FS fp a m s.fr) => RGive_yes FS fp a m s.fr p w' y (by omega) (by omega) hgv
 have hFSl := h.hf.lt
 have hDl : ∀ i ∈ rb :: lB LA, i < w.heap.size := fun i hi => by
  simp only [List.mem_cons] at hi
  rcases hi with rfl | hi
  ·exact h.hm.ws.lt
  obtain ⟨A, c, e, _, hA⟩ := h.hl.form
  injection e with e _ _
  subst e
  cases LA with
  | none => simp [lB] at hi
  | some a => obtain ⟨g, rfl, hg⟩ := hA a rfl; simp [lB] at hi; subst hi; exact hg
 have hjN : j < s.L.length := by omega
 replace her := Lib.hid her
 clear hds hd hf hg hP hgv hg3 hmap3 hcnt hj3
 go_enter Tryz.func109, Tryz.ntmps109
 go_wp2_with fail
 refine hat.mono ?_; rintro e w2 ⟨rfl, y2⟩
 clear hat
 go_wp2_with fail
 refine (hPar _ y2).mono ?_; rintro e w3 ⟨A, c, rfl, ho, hnew, y3⟩
 replace y3 := y2.trans y3 (by simp)
 have hnew : ∀ g ∈ (Value.slice A T.length c).ownBlock.toList, w.heap.size ≤ g := fun g hg => by have := hnew g hg; have := y2.size; omega
 clear hPar y2
 have h3 := h.new y3
 go_wp2_with fail
 go_loopw [7] (fun s7 wr => ∃ (k : Nat) (Rk : List (Option Addr × Nat)), k ≤ T.length ∧ s7 = .int .i64 k ∧ RStX wr q rp rb fp n a m (clrN n s ((T ++ own8 p).take k)) LA lc Rk FS ∧ Chg (rb :: lB LA) w wr ∧ RNew w R Rk ∧ OwnG atE wr 153 (.slice A T.length c) T) (fun s7 _ => T.length - (intOf s7).toNat)
 case atStart => exact ⟨0, R, Nat.zero_le _, rfl, h3, y3.weak (by simp), RNew.refl _ _, ho⟩
 obtain ⟨k, Rk, hk, rfl, H, y, hR, oT⟩ := hrel
 clear h3 ho y3
 by_cases hlt : k < T.length
 ·have hltz : (k : Int) < (T.length : Int) := by omega
  obtain ⟨gb, off, x, rfl, _, hx, hat⟩ := oT.slg.get hlt
  have hc := hclr k x (by rw [List.getElem?_append_left hlt]; exact hx) wr.drew Rk (H.new (Chg.refl [] wr).drew)
  have a0 := hat 0 _ rfl; have a1 := hat 1 _ rfl
  simp only [show (atE).k = 2 from rfl, Nat.add_zero] at a0 a1
  clear hclr hx hat
  go_upto_region 8 with fail
  refine wp_region_still_tail 11 (by kernel_rfl) (by kernel_rfl) ?_
  simp only [List.take_succ_cons, List.take_zero, List.drop_succ_cons, List.drop_zero]
  change wpStill _ _ (World.drew _) _ _ _
  iterate 11 still_step
  refine wpStill_nil ?_
  change wpList _ _ _ _ _ (World.drew wr)
  go_wp2_with fail
  refine hc.mono ?_; rintro e w5 ⟨⟨t, rfl⟩, R2, H5, y5, r5⟩
  clear hc a0 a1 H
  have yd : Chg (rb :: lB LA) wr w5 := ((Chg.refl [] wr).drew.weak (by simp)).trans y5 (fun _ _ h => h)
  go_wp2_with fail
  go_roundw
  case rel => exact ⟨k + 1, R2, by omega, by go_num, H5, y.trans yd (fun _ _ h => h), hR.trans (y.trans ((Chg.refl [] wr).drew.weak (by simp)) (fun _ _ h => h)) rfl r5, oT.chg yd (fun g_ hg_ hm => by have := hnew g_ hg_; have := hDl _ hm; omega)⟩
  case measure => simp [intOf]; omega
 obtain rfl : k = T.length := by omega
 have hltz : ¬ (T.length : Int) < (T.length : Int) := by omega
 clear oT hnew
 go_wp2_with fail
 go_loopw [8] (fun s8 wr => ∃ (i : Nat) (Rk : List (Option Addr × Nat)), i ≤ 8 ∧ s8 = .int .i64 i ∧ RStX wr q rp rb fp n a m (clrN n s ((T ++ own8 p).take (T.length + i))) LA lc Rk FS ∧ Chg (rb :: lB LA) w wr ∧ RNew w R Rk) (fun s8 _ => 8 - (intOf s8).toNat)
 case atStart => exact ⟨0, Rk, by omega, rfl, H, y, hR⟩
 obtain ⟨i, Rk, hi, rfl, H, y, hR⟩ := hrel
 by_cases hi8 : i < 8
 ·have hiz : (i : Int) < 8 := by omega
  have hc := hclr (T.length + i) (p, (i : Int)) (by rw [List.getElem?_append_right (by omega), Nat.add_sub_cancel_left]; exact own8_at p hi8) _ Rk H
  simp only at hc
  clear hclr H
  go_wp2_with fail
  refine hc.mono ?_; rintro e w5 ⟨⟨t, rfl⟩, R2, H5, y5, r5⟩
  clear hc
  go_wp2_with fail
  go_roundw
  case rel => exact ⟨i + 1, R2, by omega, by go_num, H5, y.trans y5 (fun _ _ h => h), hR.trans y rfl r5⟩
  case measure => simp [intOf]; omega
 obtain rfl : i = 8 := by omega
 have hiz : ¬ ((8 : Nat) : Int) < 8 := by omega
 have hfull : (T ++ own8 p).take (T.length + 8) = T ++ own8 p := List.take_of_length_le (by simp [own8])
 rw [hfull, hdc] at H
 clear hfull hdc hclr
 have hst := H.st
 have hRl : (rowsR s3.L Rk).length = s3.L.length := by unfold rowsR; rw [List.length_zipWith, H.len]; omega
 obtain ⟨b_, eA⟩ : ∃ b_, LA = some ⟨b_, 0, none⟩ := by
  obtain ⟨b_, _, _, eA, _⟩ := H.page0 (j := j) (p := s3.L[j]'(by omega)) (List.getElem?_eq_getElem (by omega))
  exact ⟨b_, eA⟩
 have hcap := H.hl.cap
 rw [hlen3] at hst hRl hcap
 have hlead := fun w => run_lead 110 115 5 Tryz.underlying110 sizePage14 LA s.L.length lc j (by omega) w
 have hrest := fun w => run_rest 110 115 5 Tryz.underlying110 sizePage14 LA s.L.length lc (j + 1) (by omega) w
 have ej1 : ((j + 1 : Nat) : Int) = (j : Int) + 1 := by omega
 rw [ej1] at hrest
 clear ej1
 have hwr1 : IntKind.i64.wrap ((j : Int) + 1) = (j : Int) + 1 := IntWalk.i64_in _ (by omega)
 have hcut1 := fun w' (y : Chg [] wr w') => ((H.hl.new y).slg.cutp 0 j (by omega) (by omega) (cap := lc) (by omega))
 have hcut2 := fun w' (y : Chg [] wr w') => ((H.hl.new y).slg.cutp (j + 1) s3.L.length (by omega) (by omega) (cap := lc) (by omega))
 simp only [Nat.sub_zero, List.drop_zero, show rpE.k = 5 from rfl, hlen3] at hcut1 hcut2
 rw [show ((rowsR s3.L Rk).drop (j + 1)).take (s.L.length - (j + 1)) = (rowsR s3.L Rk).drop (j + 1) from List.take_of_length_le (by rw [List.length_drop, hRl]; omega)] at hcut2
 have hn1 : cutP LA lc 0 5 ≠ none := fun e => by have := cutP_none e; rw [eA] at this; cases this
 have hn2 : cutP LA lc (j + 1) 5 ≠ none := fun e => by have := cutP_none e; rw [eA] at this; cases this
 have hl1 : ((rowsR s3.L Rk).take j).length = j := by rw [List.length_take, hRl]; omega
 have hl2 : ((rowsR s3.L Rk).drop (j + 1)).length = s.L.length - (j + 1) := by rw [List.length_drop, hRl]
 clear eA
 generalize cutP LA lc 0 5 = A1 at hlead hcut1 hn1
 generalize cutP LA lc (j + 1) 5 = A2 at hrest hcut2 hn2
 go_upto_region 13 with fail
 refine wp_region_noPanic ?_
 refine late_region (S := (fun w' => Chg [] wr w')) (Z := 19) (by kernel_rfl) ((Chg.refl [] wr).drew) (fun hHeld => ?_)
 have HH : SepC wr wr.drew [] := (SepC.nil wr).new (Chg.refl [] wr).drew
 clear hHeld
 generalize wr.drew = u at *
 have hHeld := HH.1
 (refine lk 0 43 ?_ ?_ ?_; rotate_left; · (intro w hSw; go_simp; (try with_reducible rfl)))
 (try simp only [Act.put, qI, qO, qU])
 (refine lk 2 45 ?_ ?_ ?_; rotate_left; · (intro w hSw; go_simp; (try with_reducible rfl)))
 (try simp only [Act.put, qI, qO, qU])
 (refine lk 3 46 ?_ ?_ ?_; rotate_left; · (intro w hSw; go_simp; (try with_reducible rfl)))
 (try simp only [Act.put, qI, qO, qU])
 (refine lk 4 47 ?_ ?_ ?_; rotate_left; · (intro w hSw; go_simp; (try with_reducible rfl)))
 (try simp only [Act.put, qI, qO, qU])
 (refine lk 5 48 ?_ ?_ ?_; rotate_left; · (intro w hSw; (try dsimp only at hSw); have b_ := (hst.chg_ hSw (by simp)).cell 2; simp only [qA, qZ, qS] at b_; go_simp; (try with_reducible rfl)))
 (try simp only [Act.put, qI, qO, qU])
 (refine lk 6 49 ?_ ?_ ?_; rotate_left; · (intro w hSw; go_simp; (try with_reducible rfl)))
 (try simp only [Act.put, qI, qO, qU])
 (refine lk 7 50 ?_ ?_ ?_; rotate_left; · (intro w hSw; have hl_ := hlead w; go_simp; (try with_reducible rfl)))
 (try simp only [Act.put, qI, qO, qU])
 (refine lk 9 52 ?_ ?_ ?_; rotate_left; · (intro w hSw; go_simp; (try with_reducible rfl)))
 (try simp only [Act.put, qI, qO, qU])
 (refine lk 10 53 ?_ ?_ ?_; rotate_left; · (intro w hSw; go_simp; (try with_reducible rfl)))
 (try simp only [Act.put, qI, qO, qU])
 (refine lk 11 54 ?_ ?_ ?_; rotate_left; · (intro w hSw; go_simp; (try with_reducible rfl)))
 (try simp only [Act.put, qI, qO, qU])
 (refine lk 12 55 ?_ ?_ ?_; rotate_left; · (intro w hSw; (try dsimp only at hSw); have b_ := (hst.chg_ hSw (by simp)).cell 2; simp only [qA, qZ, qS] at b_; go_simp; (try with_reducible rfl)))
 (try simp only [Act.put, qI, qO, qU])
 (refine lk 13 56 ?_ ?_ ?_; rotate_left; · (intro w hSw; go_simp; (try with_reducible rfl)))
 (try simp only [Act.put, qI, qO, qU])
 (refine lk 14 57 ?_ ?_ ?_; rotate_left; · (intro w hSw; go_simp; (try with_reducible rfl)))
 (try simp only [Act.put, qI, qO, qU])
 (refine lk 15 58 ?_ ?_ ?_; rotate_left; · (intro w hSw; have hl_ := hrest w; go_simp; (try with_reducible rfl)))
 (try simp only [Act.put, qI, qO, qU])
 refine lrdy 1 fun K hK => ?_
 go_simp
 replace HH : SepC wr (u.alloc (.cells #[] 115)) (blkT u.heap.size 115 (rpE.all []).toArray :: _) := HH.alloc _ _
 replace HH := HH.litOwn (c := 0) (by simp) (by simp)
 refine hK.out _ _ (fun _ => by (try dsimp only); exact HH.1) ?_
 clear hK K
 (try simp only [Act.put, qI, qO, qU])
 clear hHeld
 generalize u.alloc (.cells #[] 115) = u' at *
 generalize u.heap.size = ga at *
 clear u
 obtain ⟨u, hu⟩ : ∃ u, u' = u := ⟨_, rfl⟩
 rw [hu] at HH ⊢
 clear hu u'
 have hHeld := HH.1
 refine lrdy 8 fun K hK => ?_
 refine step_append_G (E := rpE) (some 51) rfl rfl (.tmp 44) (.tmp 50) 110 rfl 115 (.agg #[.int .i64 0, .int .i64 0, .int .i64 0, .int .i64 0, .slice none 0 0]) 56 Tryz.underlying110 Page14_info rfl (.slice (some ⟨ga, 0, none⟩) 0 0) [] rfl HH.own A1 j lc ((rowsR s3.L Rk).take j) rfl (SlG.src (hcut1 _ HH.1) (fun e => absurd e hn1)) hl1 (by simp; omega) (fun v' u' ho5 hc5 hb5 => ?_)
 rw [List.nil_append] at ho5
 obtain ⟨A5, c5, rfl, hx1, hx2⟩ := ho5.form
 clear hx1 hx2
 rw [hl1] at ho5 hb5 ⊢
 replace HH := HH.app ho5 hc5 hb5
 clear ho5 hc5 hb5
 refine hK.out _ _ (fun _ => by (try dsimp only); exact HH.1) ?_
 clear hK K
 (try simp only [Act.put, qI, qO, qU])
 clear hHeld u
 obtain ⟨u, hu⟩ : ∃ u, u' = u := ⟨_, rfl⟩
 rw [hu] at HH ⊢
 clear hu u'
 have hHeld := HH.1
 refine lrdy 16 fun K hK => ?_
 refine step_append_G (E := rpE) (some 59) rfl rfl (.tmp 51) (.tmp 58) 110 rfl 115 (.agg #[.int .i64 0, .int .i64 0, .int .i64 0, .int .i64 0, .slice none 0 0]) 56 Tryz.underlying110 Page14_info rfl (.slice A5 j c5) ((rowsR s3.L Rk).take j) rfl HH.own A2 (s.L.length - (j + 1)) (lc - (j + 1)) ((rowsR s3.L Rk).drop (j + 1)) rfl (SlG.src (hcut2 _ HH.1) (fun e => absurd e hn2)) hl2 (by rw [hl1]; omega) (fun v' u' ho5 hc5 hb5 => ?_)
 obtain ⟨A6, c6, rfl, hx1, hx2⟩ := ho5.form
 clear hx1 hx2
 have hl6 : ((rowsR s3.L Rk).take j ++ (rowsR s3.L Rk).drop (j + 1)).length = s.L.length - 1 := by rw [List.length_append, hl1, hl2]; omega
 rw [hl6] at ho5 hb5 ⊢
 replace HH := HH.app ho5 hc5 hb5
 clear ho5 hc5 hb5 hl6
 refine hK.out _ _ (fun _ => by (try dsimp only); exact HH.1) ?_
 clear hK K
 (try simp only [Act.put, qI, qO, qU])
 clear hHeld u
 have hqu := hst.chg_ HH.1 (by simp)
 have c2 := hqu.cell 2; have f2 := hqu.frozen 2
 simp only [qA, qZ, qS] at c2
 refine lrdy 17 fun K hK => ?_
 go_simp
 refine hK.out _ _ (fun _ => by (try dsimp only); exact HH.1) ?_
 clear hK K
 (try simp only [Act.put, qI, qO, qU])
 refine lrdy 18 fun K hK => ?_
 go_simp
 refine hK.out _ _ (fun _ => by (try dsimp only); exact HH.1) ?_
 clear hK K
 (try simp only [Act.put, qI, qO, qU])
 refine lrdy 19 fun K hK => ?_
 go_simp
 refine hK.out _ _ (fun e => absurd rfl e) ?_
 clear hK K
 (try simp only [Act.put, qI, qO, qU])
 refine late_done (by kernel_rfl) ?_ _
 refine NoPanic.normal ?_
 have hown := HH.own
 rw [← hlen3] at hown
 have hless := (H.new HH.1).less (j := j) (by omega) hown
 rw [hlen3] at hless
 have hA6 : ∀ g ∈ lB A6, w.heap.size ≤ g := fun g hg => by
  obtain ⟨S_, ⟨e_, _⟩, hS_⟩ := HH.fst
  have := hS_ g (by rw [e_]; cases A6 <;> exact hg)
  have := y.size; omega
 have hyv : Chg (rb :: q :: lB LA) w (u'.setCell ⟨q, 2, none⟩ (.slice A6 (s.L.length - 1) c6)) := ((y.weak (fun i_ _ hi_ => by simp only [List.mem_cons] at hi_ ⊢; rcases hi_ with h_ | h_ <;> simp [h_])).trans HH.1 (by simp)).setCell (p := ⟨q, 2, none⟩) (by simp) _
 clear hwr1 hqu c2 f2 HH H hst hRl hown hcut1 hcut2 hlead hrest hl1 hl2 hn1 hn2 hcap
 generalize u'.setCell ⟨q, 2, none⟩ (.slice A6 (s.L.length - 1) c6) = v0 at *
 clear u'
 have hcf := hless.st.cell 1
 simp only [qA, qZ, qS] at hcf
 have hgv := hGv v0 (hfr3 ▸ hless.hf)
 clear hGv
 go_wp2_with fail
 refine hgv.mono ?_; rintro e w9 ⟨FS', rfl, y9, hf9, hG⟩
 clear hgv hcf
 have hr9 := hless.frees y9 hf9
 go_wp2_with fail
 go_ret
 refine ⟨rfl, A6, c6, _, FS', hr9, (hyv.weak (fun i_ _ hi_ => by simp only [List.mem_cons, List.mem_append] at hi_ ⊢; rcases hi_ with h_ | h_ | h_ <;> simp [h_])).trans y9 (fun i_ _ hi_ => by simp [hi_]), fun g_ hg_ => ?_, fun r_ hr_ => hR r_ (List.mem_of_mem_eraseIdx hr_)⟩
 rw [List.mem_append] at hg_
 rcases hg_ with h_ | h_
 ·exact .inr (hA6 g_ h_)
 rcases hG g_ h_ with h2 | h2
 ·exact .inl (by simp [h2])
 exact .inr (by have := hyv.size; omega)
end
def rS (q rp rb : Nat) (LA : Option Addr) (FS : List Nat) (R : List (Option Addr × Nat)) : List Nat := rb :: rp :: q :: (lB LA ++ FS ++ R.flatMap fun r => lB r.1)
theorem lB_own (A : Option Addr) (n c : Nat) : (Value.slice A n c).ownBlock.toList = lB A := by cases A <;> rfl
def rstT (q rp rb n a m : Nat) (s : Sr) : Th where
 at_ w U := ∃ fp LA lc R FS, U = rS q rp rb LA FS R ∧ RStX w q rp rb fp n a m s LA lc R FS ∧ SrOk n a m s
 lt := by
  rintro w U ⟨fp, LA, lc, R, FS, rfl, h, ok⟩ i hi
  simp only [rS, List.mem_cons, List.mem_append, List.mem_flatMap] at hi
  rcases hi with rfl | rfl | rfl | (hi | hi) | ⟨r, hr, hi⟩
  ·exact h.hm.ws.lt
  ·exact h.hm.st.lt
  ·exact h.st.lt
  ·exact h.hl.lt i (by rw [lB_own]; exact hi)
  ·exact h.hf.lt i hi
  obtain ⟨j, hj, e⟩ := List.getElem_of_mem hr
  have hlen := h.len
  have := (h.hs j _ r (List.getElem?_eq_getElem (by omega)) (by rw [← e]; exact List.getElem?_eq_getElem hj)).lt i (by rw [lB_own]; exact hi)
  exact this
 chg := by
  rintro w w' U T ⟨fp, LA, lc, R, FS, rfl, h, ok⟩ hc hn
  have hlen := h.len
  refine ⟨fp, LA, lc, R, FS, rfl, ⟨hc.blk h.st (hn q (by simp [rS])), h.hm.chg hc (hn rp (by simp [rS])) (hn rb (by simp [rS])), h.hf.chg hc (fun i hi => hn i (by simp [rS, hi])), h.hl.chg hc (fun g hg => hn g (by rw [lB_own] at hg; simp [rS, hg])), h.len, fun j p r hp hr => (h.hs j p r hp hr).chg hc fun g hg => hn g ?_⟩, ok⟩
  rw [lB_own] at hg
  simp only [rS, List.mem_cons, List.mem_append, List.mem_flatMap]
  exact .inr (.inr (.inr (.inr ⟨r, List.mem_of_getElem? hr, hg⟩)))
section
variable {w0 w w' : World} {l : List Th} {q rp rb n a m : Nat} {s : Sr} {W : List Int}
theorem SepC.rstx (H : SepC w0 w (rstT q rp rb n a m s :: l)) : ∃ fp LA lc R FS, RStX w q rp rb fp n a m s LA lc R FS := by
 obtain ⟨_, ⟨fp, LA, lc, R, FS, _, h, _⟩, _⟩ := H.fst
 exact ⟨fp, LA, lc, R, FS, h⟩
theorem SepC.rok (H : SepC w0 w (rstT q rp rb n a m s :: l)) : SrOk n a m s := by
 obtain ⟨_, ⟨_, _, _, _, _, _, _, ok⟩, _⟩ := H.fst
 exact ok
theorem SepC.rmem (H : SepC w0 w (rstT q rp rb n a m s :: l)) : RMemAt w rp rb n s.W := by
 obtain ⟨_, _, _, _, _, h⟩ := H.rstx; exact h.hm
theorem SepC.rCall {s1 : Sr} {f : FuncId} {args : Array Value} {u : Value} {prog : Program} (H : SepC w0 w (rstT q rp rb n a m s :: l)) (ok : SrOk n a m s → SrOk n a m s1)
  (hc : ∀ fp LA lc R FS, RStX w q rp rb fp n a m s LA lc R FS → Calls prog f args w (RGo q rp rb fp n a m s1 LA R FS u w)) :
  Calls prog f args w fun e w' => e = .returned u ∧ SepC w0 w' (rstT q rp rb n a m s1 :: l) := by
 refine H.callV fun U V hU hn hV => ?_
 obtain ⟨fp, LA, lc, R, FS, rfl, h, hok⟩ := hU
 refine (hc fp LA lc R FS h).mono fun _ _ ⟨he, LA', lc', R', FS', h', y, hg, hr⟩ => ⟨he, rS q rp rb LA' FS' R', ⟨fp, LA', lc', R', FS', rfl, h', ok hok⟩, y.weak (fun i _ hi => ?_), fun i hi => ?_⟩
 ·simp only [rS, List.mem_cons, List.mem_append] at hi ⊢
  rcases hi with hi | hi | hi | hi <;> simp [hi]
 simp only [rS, List.mem_cons, List.mem_append, List.mem_flatMap] at hi hg ⊢
 rcases hi with hi | hi | hi | hi | ⟨r, hr', hi⟩
 ·exact .inl (.inl hi)
 ·exact .inl (.inr (.inl hi))
 ·exact .inl (.inr (.inr (.inl hi)))
 ·exact (hg i hi).imp (fun h => .inr (.inr (.inr (.inl h)))) id
 rcases hr r hr' with h1 | ⟨g, e, h1⟩
 ·exact .inl (.inr (.inr (.inr (.inr ⟨r, h1, hi⟩))))
 rw [e] at hi; simp [lB] at hi; subst hi; exact .inr h1
theorem SepC.rNew (H : SepC w0 w (rhoT rp rb n W :: l)) (hB : a + m ≤ n) :
  Calls Tryz.prog 45 #[.pointer (some ⟨rp, 0, none⟩), .int .i64 a, .int .i64 m] w fun e w' => ∃ q, e = .returned (.pointer (some ⟨q, 0, none⟩)) ∧ SepC w0 w' (rstT q rp rb n a m ⟨[], dnk a m, W⟩ :: l) := by
 have hM := H.rhmem
 refine (RNew14_yes rp rb n W a m w hM hB).mono fun _ _ ⟨q, fp, FS, he, hs, y, hq, hg⟩ => ⟨q, he, ?_⟩
 refine H.step (P' := rstT q rp rb n a m ⟨[], dnk a m, W⟩) (S := [rb, rp]) (S' := rS q rp rb none FS []) (fun _ h => h.1) (y.weak (by simp)) ⟨fp, none, 0, [], FS, rfl, hs, SrOk.new hB hM.le hM.len⟩ fun i hi => ?_
 simp only [rS, lB, List.mem_cons, List.mem_append, Option.map_none, Option.toList_none, List.flatMap_nil, List.not_mem_nil, or_false, false_or] at hi
 rcases hi with hi | hi | hi | hi
 ·exact .inl (by simp [hi])
 ·exact .inl (by simp [hi])
 ·exact .inr (hi ▸ hq)
 exact .inr (hg i hi)
theorem SepC.rMake (H : SepC w0 w (rstT q rp rb n a m s :: l)) (k : Ky) : Calls Tryz.prog 97 #[.pointer (some ⟨q, 0, none⟩), .agg k.cs] w fun e w' => e = .returned (.tuple #[.int .i64 (makeV s k), .bool (makeB s k)]) ∧ SepC w0 w' (rstT q rp rb n a m (makeS n s k) :: l) :=
 H.rCall (fun ok => ok.make k) fun _ _ _ _ _ h => RMake_any k w h H.rok
theorem SepC.rChild (H : SepC w0 w (rstT q rp rb n a m s :: l)) (p i c : Int) (r : Rg) : Calls Tryz.prog 54 #[.pointer (some ⟨q, 0, none⟩), .int .i64 p, .int .i64 i, .int .i64 c, .agg r.cs] w fun e w' => e = .returned (.bool (childB s p i c)) ∧ SepC w0 w' (rstT q rp rb n a m (childS n s p i c r) :: l) :=
 H.rCall (fun ok => ok.child p i c r) fun _ _ _ _ _ h => (RChild_any p i c r w h H.rok).mono fun _ _ h => h.go
theorem SepC.rLeaf (H : SepC w0 w (rstT q rp rb n a m s :: l)) (p i g x : Int) (r : Rg) : Calls Tryz.prog 55 #[.pointer (some ⟨q, 0, none⟩), .int .i64 p, .int .i64 i, .int .i64 g, .int .i64 x, .agg r.cs] w fun e w' => e = .returned (.bool (leafB n s p i x)) ∧ SepC w0 w' (rstT q rp rb n a m (leafS n s p i g x r) :: l) :=
 H.rCall (fun ok => ok.leaf p i g x r) fun _ _ _ _ _ h => (RLeaf_any p i g x r w h H.rok).mono fun _ _ h => h.go
theorem SepC.rClear (H : SepC w0 w (rstT q rp rb n a m s :: l)) (p i : Int) : Calls Tryz.prog 101 #[.pointer (some ⟨q, 0, none⟩), .int .i64 p, .int .i64 i] w fun e w' => e = .returned (.bool (clearB s p i)) ∧ SepC w0 w' (rstT q rp rb n a m (clearS n s p i) :: l) :=
 H.rCall (fun ok => ok.clear p i) fun _ _ _ _ _ h => (RClear_any p i w h H.rok).mono fun _ _ h => h.go
theorem SepC.rDrop (H : SepC w0 w (rstT q rp rb n a m s :: l)) (p : Int) : Calls Tryz.prog 109 #[.pointer (some ⟨q, 0, none⟩), .int .i64 p] w fun e w' => e = .returned (.bool (dropB s p)) ∧ SepC w0 w' (rstT q rp rb n a m (dropS s p) :: l) :=
 H.rCall (fun ok => ok.drop p) fun _ _ _ _ _ h => RDrop_any p w h H.rok
theorem SepC.rFind (H : SepC w0 w (rstT q rp rb n a m s :: l)) (k : Ky) : Calls Tryz.prog 74 #[.pointer (some ⟨q, 0, none⟩), .agg k.cs] w fun e w' => e = .returned (.tuple #[.int .i64 (findV s.L k), .bool (pgOf s.L k).isSome]) ∧ Chg [] w w' := by
 obtain ⟨_, _, _, _, _, h⟩ := H.rstx; exact RFind_any k w h H.rok.le256
theorem SepC.rKey (H : SepC w0 w (rstT q rp rb n a m s :: l)) (p : Int) : Calls Tryz.prog 103 #[.pointer (some ⟨q, 0, none⟩), .int .i64 p] w fun e w' => e = .returned (.tuple #[.agg (keyV s.L p).cs, .bool (pgAt s.L p).isSome]) ∧ Chg [] w w' := by
 obtain ⟨_, _, _, _, _, h⟩ := H.rstx; exact RKey_any p w h H.rok.le256
theorem SepC.rSlot (H : SepC w0 w (rstT q rp rb n a m s :: l)) (p i : Int) : Calls Tryz.prog 75 #[.pointer (some ⟨q, 0, none⟩), .int .i64 p, .int .i64 i] w fun e w' => e = .returned (.tuple #[.agg (slotV s.L p i).cl.toArray, .bool (slotP s.L p i).isSome]) ∧ Chg [] w w' := by
 obtain ⟨_, _, _, _, _, h⟩ := H.rstx; exact RSlot_any p i w h H.rok.le256 H.rok.eight
theorem SepC.rParents (H : SepC w0 w (rstT q rp rb n a m s :: l)) (p : Int) : Calls Tryz.prog 104 #[.pointer (some ⟨q, 0, none⟩), .int .i64 p] w fun e w' => ∃ A c, e = .returned (.slice A (toldP 1 p s.L).length c) ∧ SepC w0 w' (ownT atE 153 (.slice A (toldP 1 p s.L).length c) (toldP 1 p s.L) :: rstT q rp rb n a m s :: l) := by
 obtain ⟨_, _, _, _, _, h⟩ := H.rstx
 exact (Rparents_any p w h H.rok).mono fun _ _ ⟨A, c, he, ho, hg, y⟩ => ⟨A, c, he, H.lay y ⟨rfl, ho⟩ hg⟩
theorem SepC.rLeaves (H : SepC w0 w (rstT q rp rb n a m s :: l)) (p : Int) : Calls Tryz.prog 135 #[.pointer (some ⟨q, 0, none⟩), .int .i64 p] w fun e w' => ∃ A c, e = .returned (.slice A (toldP 2 p s.L).length c) ∧ SepC w0 w' (ownT atE 153 (.slice A (toldP 2 p s.L).length c) (toldP 2 p s.L) :: rstT q rp rb n a m s :: l) := by
 obtain ⟨_, _, _, _, _, h⟩ := H.rstx
 exact (Rleaves_any p w h H.rok).mono fun _ _ ⟨A, c, he, ho, hg, y⟩ => ⟨A, c, he, H.lay y ⟨rfl, ho⟩ hg⟩
theorem SepC.rAll (H : SepC w0 w (rstT q rp rb n a m s :: l)) : Calls Tryz.prog 21 #[.pointer (some ⟨q, 0, none⟩)] w fun e w' => ∃ A c, e = .returned (.slice A (s.L.map Pg.f).length c) ∧ SepC w0 w' (ownT (numE .i64) 3 (.slice A (s.L.map Pg.f).length c) (s.L.map Pg.f) :: rstT q rp rb n a m s :: l) := by
 obtain ⟨_, _, _, _, _, h⟩ := H.rstx
 exact (RAll14_any w h H.rok.le256).mono fun _ _ ⟨A, c, he, ho, hg, y⟩ => ⟨A, c, he, H.lay y ⟨rfl, ho⟩ hg⟩
theorem SepC.rOf (H : SepC w0 w (rstT q rp rb n a m s :: l)) (g : Int) : Calls Tryz.prog 64 #[.pointer (some ⟨q, 0, none⟩), .int .i64 g] w fun e w' => ∃ A c, e = .returned (.slice A (ofP s.L g).length c) ∧ SepC w0 w' (ownT (numE .i64) 3 (.slice A (ofP s.L g).length c) (ofP s.L g) :: rstT q rp rb n a m s :: l) := by
 obtain ⟨_, _, _, _, _, h⟩ := H.rstx
 exact (ROf14_any g w h H.rok.le256).mono fun _ _ ⟨A, c, he, ho, hg, y⟩ => ⟨A, c, he, H.lay y ⟨rfl, ho⟩ hg⟩
end
end Go.Proofs.YtgjfidjhbkaobaaGreat
