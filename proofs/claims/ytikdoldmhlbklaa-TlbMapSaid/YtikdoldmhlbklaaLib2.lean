/-
  More plain facts: rows of integers of one's own, sets of integers (map[int]struct{}) of one's own: no program is named here.
-/
import Derived.Test.YtikdoldmhlbklaaLib
import Derived.Maps.OwnSet
import Derived.Maps.OwnOps
namespace Go.Proofs.Ytikdoldmhlbklaa
open Go.RowKit Go.Maps

/-- numbers of one kind as values -/
def vals (k : IntKind) (L : List Int) : List Value := L.map (Value.int k)
theorem vals_len (k : IntKind) (L : List Int) : (vals k L).length = L.length := by simp [vals]
theorem vals_get (k : IntKind) (L : List Int) (i : Nat) : (vals k L)[i]? = L[i]?.map (Value.int k) := by simp [vals]
theorem vals_app (k : IntKind) (L M : List Int) : vals k (L ++ M) = vals k L ++ vals k M := by simp [vals]
theorem vals_one (k : IntKind) (x : Int) : vals k [x] = [.int k x] := rfl

/-- v is a slice of one's own of these numbers -/
def OwnI (w : World) (t : TypeId) (k : IntKind) (v : Value) (L : List Int) : Prop := w.ownsRow 0 t 1 v L.length (vals k L)

section
variable {w w' : World} {t : TypeId} {k : IntKind} {v : Value} {L : List Int}
theorem OwnI.none_ (w : World) (t : TypeId) (k : IntKind) : OwnI w t k (.slice none 0 0) [] := World.ownsRow_nil _ _ _ _
theorem OwnI.chg {S : List Nat} (h : OwnI w t k v L) (hc : Chg S w w') (hn : ∀ g ∈ v.ownBlock.toList, g ∉ S) : OwnI w' t k v L := own_chg h hc fun g hg => hn g (by simp [hg])
theorem OwnI.lt (h : OwnI w t k v L) : ∀ g ∈ v.ownBlock.toList, g < w.heap.size := fun g hg => (World.ownsRow.lt h g (by simpa using hg)).2
theorem OwnI.alloc (h : OwnI w t k v L) (o : Obj) : OwnI (w.alloc o) t k v L := World.ownsRow.alloc h o
theorem OwnI.form (h : OwnI w t k v L) : ∃ A c, v = .slice A L.length c := by
  obtain ⟨A, c, h1, _, _⟩ := own_form h
  exact ⟨A, c, h1⟩
theorem OwnI.pos_ (h : OwnI w t k v L) (h0 : 0 < L.length) : ∃ g c, v = .slice (some ⟨g, 0, none⟩) L.length c ∧ L.length ≤ c ∧ c ≤ 9223372036854775807 := by
  obtain ⟨g, c, cur, h1, _, _, h2, h3, _⟩ := own_blk h h0
  exact ⟨g, c, h1, h2, by simpa [maxLen] using h3⟩
theorem OwnI.cell {g n c : Nat} (h : OwnI w t k (.slice (some ⟨g, 0, none⟩) n c) L) (i : Nat) (hi : i < L.length) : w.cell? ⟨g, i, none⟩ = some (.int k (L.getD i 0)) := by
  have hn : n = L.length := by
    obtain ⟨A, c', e⟩ := h.form
    injection e with _ e _
  subst hn
  rw [World.ownsRow.cellAt h i (by omega), vals_get]
  simp [List.getD, List.getElem?_eq_getElem hi]
theorem OwnI.frozen {g n c : Nat} (h : OwnI w t k (.slice (some ⟨g, 0, none⟩) n c) L) (i : Nat) : w.frozen? ⟨g, i, none⟩ = false := by
  have hn : n = L.length := by
    obtain ⟨A, c', e⟩ := h.form
    injection e with _ e _
  subst hn
  exact World.ownsRow.frozenAt h i
/-- the first n of them -/
theorem OwnI.take {g n c : Nat} (h : OwnI w t k (.slice (some ⟨g, 0, none⟩) n c) L) (m : Nat) (hm : m ≤ L.length) : OwnI w t k (.slice (some ⟨g, 0, none⟩) m c) (L.take m) := by
  have hn : n = L.length := by
    obtain ⟨A, c', e⟩ := h.form
    injection e with _ e _
  subst hn
  have hl : (L.take m).length = m := by simp; omega
  unfold OwnI
  rw [hl]
  refine ⟨by rw [vals_len, hl, Nat.mul_one], ?_⟩
  rcases h.2 with ⟨h0, _⟩ | ⟨g', c', cur, hv, hg, hb, h1, h2, h3, h4⟩
  · cases h0
  · injection hv with e1 e2 e3
    injection e1 with e1
    subst e3
    refine .inr ⟨g', c, cur, by rw [e1], hg, hb, by omega, h2, h3, ?_⟩
    rw [Nat.mul_one] at h4 ⊢
    have := congrArg (List.take m) h4
    rw [List.take_take, Nat.min_eq_left hm] at this
    rw [this]; simp [vals, List.map_take]
theorem OwnI.blk (h : OwnI w t k v L) {g : Nat} (hg : g ∈ v.ownBlock.toList) : ∃ cur, Blk w g t cur := by
  rcases h.2 with ⟨h0, _⟩ | ⟨g', c', cur, hv, _, hb, _⟩
  · subst h0; simp [Value.ownBlock] at hg
  · subst hv; simp [Value.ownBlock] at hg; subst hg; exact ⟨cur, hb⟩
theorem OwnI.slice {A : Option Addr} {n c : Nat} (h : OwnI w t k (.slice A n c) L) : n = L.length := by
  obtain ⟨A', c', e⟩ := h.form
  injection e
end

/-- a world that has grown by this one row or map -/
theorem Chg.of_grown {w w' : World} {row : Option Nat} (h : w.grownBy w' row) : Chg row.toList w w' :=
  ⟨h.os, h.tape, h.output, h.size, fun k hk hn => h.block k hk (fun e => hn (by simp [← e]))⟩

/-- block b is a map[int]struct{} of n keys: those of S -/
def SetM (P : Program) (kt : TypeId) (w : World) (b n : Nat) (S : Int → Bool) : Prop :=
  ∃ D : DataW Unit, w.ownsMap P kt unitElem b n D ∧ (∀ x, Maps.has D (.int .i64 x) = S x) ∧ Maps.size D = n
def insS (S : Int → Bool) (f : Int) : Int → Bool := fun y => S y || y == f
def delS (S : Int → Bool) (f : Int) : Int → Bool := fun y => S y && y != f

section
variable {P : Program} {kt : TypeId} {w w' : World} {b n : Nat} {S : Int → Bool}
theorem SetM.lt (h : SetM P kt w b n S) : b < w.heap.size := by obtain ⟨D, h1, _⟩ := h; exact h1.lt
theorem SetM.made (w : World) (P : Program) (kt : TypeId) : SetM P kt (w.alloc (.map #[] 0)) w.heap.size 0 (fun _ => false) :=
  ⟨.map [], World.ownsMap_made _ _ _ _, fun _ => rfl, rfl⟩
theorem SetM.congr {S' : Int → Bool} (h : SetM P kt w b n S) (e : ∀ x, S x = S' x) : SetM P kt w b n S' := by
  obtain ⟨D, h1, h2, h3⟩ := h; exact ⟨D, h1, fun x => (h2 x).trans (e x), h3⟩
theorem ownsMap_block {H : Type} {R : Value → Option (DataW H × List MemPlace)} {D : DataW H} (h : w.ownsMap P kt R b n D) (e : w'.heap[b]? = w.heap[b]?) : w'.ownsMap P kt R b n D := by
  obtain ⟨es, clock, hb, r⟩ := h; exact ⟨es, clock, e.trans hb, r⟩
theorem SetM.chg {T : List Nat} (h : SetM P kt w b n S) (hc : Chg T w w') (hn : b ∉ T) : SetM P kt w' b n S := by
  obtain ⟨D, h1, h2, h3⟩ := h; exact ⟨D, ownsMap_block h1 (hc.block b h1.lt hn), h2, h3⟩
theorem SetM.blk_ne {g : Nat} {t : TypeId} {cs : Array Value} (h : SetM P kt w b n S) (hb : Blk w g t cs) : b ≠ g := by
  obtain ⟨D, ⟨es, clock, h1, _⟩, _⟩ := h
  intro e; subst e
  have := Eq.trans (Eq.symm h1) hb
  cases this

theorem lit_ne {x y : Int} (h : y ≠ x) : (Lit.int .i64 y) ≠ .int .i64 x := fun e => h (by injection e)

theorem SetM.put (K : Keyed P kt) (_h : SetM P kt w b n S) {D' : DataW Unit} {D : DataW Unit} (hD : w.ownsMap P kt unitElem b n D) (hS : ∀ x, Maps.has D (.int .i64 x) = S x) (hz : Maps.size D = n) {f : Int} (hf : S f = false)
    (e : D' = D.put (.int .i64 f) (.agg [])) (h' : w'.ownsMap P kt unitElem b (n + 1) D') : SetM P kt w' b (n + 1) (insS S f) := by
  subst e
  refine ⟨_, h', fun x => ?_, ?_⟩
  · by_cases hx : x = f
    · subst hx
      rw [Maps.has_put_same hD.isMap (by trivial)]; simp [insS]
    · rw [Maps.has_put_other (lit_ne hx), hS]; simp [insS, hx]
  · rw [Maps.size_put (hD.tidy K), hS, hf, hz]; rfl
theorem ownsMap_tight {D : DataW Unit} {m : Nat} (h : w.ownsMap P kt unitElem b m D) : w.ownsMap P kt unitElem b (Maps.size D) D := by
  obtain ⟨es, clock, hb, F, hs, rfl⟩ := h
  exact ⟨es, clock, hb, F, by simp [Maps.size, length_sorted], rfl⟩

variable {ops : Array Oper} {rest : List Oper} {o : Oper} {a : Act} {Q : Exit → Act → World → Prop}
/-- '_, ok := m[f]' -/
theorem wpList_lookup_set (hg : o.guard = none) (m x : Operand) (t : TypeId) (hop : o.op = Op.lookup t m x true) (e : TypeId) (K : Keyed P kt) (ht : P.underlying t = some (.map kt e)) (hkt : P.underlying kt = some (.int .i64))
    (hz : (zeroValue e).run P w = .ok (.agg #[]) w) (b n : Nat) (S : Int → Bool) (hm : a.eval m = .map (some b)) (hs : SetM P kt w b n S) (f : Int) (hx : a.eval x = .int .i64 f) (hf : (Lit.int .i64 f).wf = true)
    (hK : wpList P ops Q rest (a.put o.dst (.tuple #[.agg #[], .bool (S f)])) w) : wpList P ops Q (o :: rest) a w := by
  obtain ⟨D, hown, hS, hsz⟩ := hs
  refine wpList_lookup_own_unit w hg m x t hop kt e K ht hz b n D hm hown _ _ hx (keyOf_int_mk hkt hf) ?_
  rw [hS]; exact hK
/-- 'm[f] = struct{}{}', of a new one -/
theorem wpList_store_set (hg : o.guard = none) (m x v : Operand) (t : TypeId) (hop : o.op = Op.mapUpdate t m x v) (e : TypeId) (K : Keyed P kt) (ht : P.underlying t = some (.map kt e)) (hkt : P.underlying kt = some (.int .i64))
    (b n : Nat) (S : Int → Bool) (hm : a.eval m = .map (some b)) (hs : SetM P kt w b n S) (hn : n < maxLen) (f : Int) (hx : a.eval x = .int .i64 f) (hv : a.eval v = .agg #[]) (hf : (Lit.int .i64 f).wf = true) (hSf : S f = false)
    (hK : ∀ w', SetM P kt w' b (n + 1) (insS S f) → Chg [b] w w' → wpList P ops Q rest (a.put o.dst undef) w') : wpList P ops Q (o :: rest) a w := by
  obtain ⟨D, hown, hS, hsz⟩ := hs
  refine wpList_mapUpdate_in w hg m x v t hop kt e K ht unitElem b n D hm hown hn _ _ _ hx hv (keyOf_int_mk hkt hf) _ _ unitElem_mk fun w' h1 h2 => hK w' ?_ ?_
  · exact SetM.put K ⟨D, hown, hS, hsz⟩ hown hS hsz hSf rfl h1
  · exact Chg.of_grown h2.grown
/-- 'delete(m, f)', of one that is there -/
theorem wpList_delete_set (hg : o.guard = none) (m x : Operand) (t : TypeId) (hop : o.op = Op.call { callee := Callee.builtin Builtin.delete, args := #[m, x], argTypes := #[t, kt] }) (e : TypeId) (K : Keyed P kt) (ht : P.underlying t = some (.map kt e)) (hkt : P.underlying kt = some (.int .i64))
    (b n : Nat) (S : Int → Bool) (hm : a.eval m = .map (some b)) (hs : SetM P kt w b n S) (f : Int) (hx : a.eval x = .int .i64 f) (hf : (Lit.int .i64 f).wf = true) (hSf : S f = true)
    (hK : ∀ w', SetM P kt w' b (n - 1) (delS S f) → 0 < n → Chg [b] w w' → wpList P ops Q rest (a.put o.dst (.tuple #[])) w') : wpList P ops Q (o :: rest) a w := by
  obtain ⟨D, hown, hS, hsz⟩ := hs
  have hd := Maps.size_del (k := .int .i64 f) (hown.tidy K)
  rw [hS, hSf, hsz] at hd
  simp only [if_true] at hd
  refine wpList_delete_own w hg m x t kt hop e K ht unitElem b n D hm hown _ _ hx (keyOf_int_mk hkt hf) fun w' h1 h2 => hK w' ?_ (by omega) ?_
  · refine ⟨_, (show n - 1 = Maps.size (D.del (.int .i64 f)) by omega) ▸ ownsMap_tight h1, fun x => ?_, by omega⟩
    by_cases hx : x = f
    · subst hx
      rw [Maps.has_del_same]; simp [delS]
    · rw [Maps.has_del_other (lit_ne hx), hS]; simp [delS, hx]
  · exact Chg.of_grown h2.grown
end

/-- a slice of numbers of kind k, nil let in, reads as this list -/
structure SlK (k : IntKind) (w : World) (A : Option Addr) (n : Nat) (xs : List Int) : Prop where
  len : xs.length = n
  le : n ≤ 9223372036854775807
  wf : ∀ x ∈ xs, k.min ≤ x ∧ x ≤ k.max
  at_ : 0 < n → ∃ b off, A = some ⟨b, off, none⟩ ∧ b < w.heap.size ∧ ∀ j u, xs[j]? = some u → w.cell? ⟨b, off + j, none⟩ = some (.int k u)
theorem SlK.chg {k : IntKind} {w w' : World} {A : Option Addr} {n : Nat} {xs : List Int} (h : SlK k w A n xs) (hc : Chg [] w w') : SlK k w' A n xs :=
  ⟨h.len, h.le, h.wf, fun h0 => by
    obtain ⟨b, off, rfl, hb, hr⟩ := h.at_ h0
    exact ⟨b, off, rfl, Nat.lt_of_lt_of_le hb hc.size, fun j u hu => (hc.cell (p := ⟨b, off + j, none⟩) hb (by simp)).trans (hr j u hu)⟩⟩
theorem SlK.get {k : IntKind} {w : World} {A : Option Addr} {n : Nat} {xs : List Int} (h : SlK k w A n xs) {i : Nat} (hi : i < n) :
    ∃ b off, A = some ⟨b, off, none⟩ ∧ b < w.heap.size ∧ w.cell? ⟨b, off + i, none⟩ = some (.int k (xs.getD i 0)) ∧ k.min ≤ xs.getD i 0 ∧ xs.getD i 0 ≤ k.max := by
  obtain ⟨b, off, e, hb, hr⟩ := h.at_ (by omega)
  have hl := h.len
  have hx : xs[i]? = some (xs.getD i 0) := by simp [List.getD_eq_getElem?_getD, List.getElem?_eq_getElem (show i < xs.length by omega)]
  exact ⟨b, off, e, hb, hr i _ hx, h.wf _ (List.mem_of_getElem? hx)⟩

/-- a row of bools, told by a function -/
def bools (n : Nat) (S : Int → Bool) : Array Value := ((List.range n).map fun (j : Nat) => Value.bool (S j)).toArray
theorem bools_get (n : Nat) (S : Int → Bool) (j : Nat) (hj : j < n) : (bools n S)[j]? = some (.bool (S j)) := by simp [bools, hj]
theorem bools_set (n : Nat) (S : Int → Bool) (j : Nat) (t : Bool) : (bools n S).setIfInBounds j (.bool t) = bools n (fun y => if y = j then t else S y) := by
  apply Array.ext_getElem?
  intro i
  simp only [bools, List.setIfInBounds_toArray, List.getElem?_toArray, List.getElem?_set, List.length_map, List.length_range, List.getElem?_map]
  by_cases e : j = i
  · subst e
    by_cases hj : j < n
    · simp [hj]
    · simp [hj]
  · have e' : ¬ ((i : Int) = j) := fun h => e (by omega)
    by_cases hi : i < n
    · simp [e, e', hi]
    · simp [e, hi]
theorem bools_congr (n : Nat) (S T : Int → Bool) (h : ∀ j : Nat, j < n → S j = T j) : bools n S = bools n T := by
  unfold bools
  congr 1
  exact List.map_congr_left fun j hj => by rw [h j (List.mem_range.1 hj)]

/-- what a thing has taken into its own: blocks that were its own, and new ones -/
def Grew (w : World) (S S' : List Nat) : Prop := ∀ i ∈ S', i ∈ S ∨ w.heap.size ≤ i
theorem Grew.refl (w : World) (S : List Nat) : Grew w S S := fun _ h => .inl h
theorem grew_dis {w : World} {S S' T : List Nat} (hG : Grew w S S') (hd : ∀ i ∈ S, i ∉ T) (hT : ∀ i ∈ T, i < w.heap.size) : ∀ i ∈ S', i ∉ T := fun i hi hm =>
  (hG i hi).elim (fun h => hd i h hm) (fun h => absurd (hT i hm) (by omega))
theorem grew_base {w : World} {S S' : List Nat} {b : Nat} (hG : Grew w S S') (hb : b ≤ w.heap.size) (hS : ∀ i ∈ S, b ≤ i) : ∀ i ∈ S', b ≤ i := fun i hi =>
  (hG i hi).elim (hS i) (fun h => Nat.le_trans hb h)
theorem dis_symm {S T : List Nat} (hd : ∀ i ∈ S, i ∉ T) : ∀ i ∈ T, i ∉ S := fun i hi hm => hd i hm hi

end Go.Proofs.Ytikdoldmhlbklaa
