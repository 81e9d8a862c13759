/-
  Plain facts on a map[int]int of one's own, and on slices of numbers that are one's own: no program is named here.
-/
import Derived.Test.YtdfmlodmaipnkaaGreatDoorLib2
import Derived.Lib.SliceRun
namespace Go.Proofs.YtdfmlodmaipnkaaGreatDoor
open Go.RowKit Go.Maps

/-- block b is a map[int]int of at most n keys: what it holds is F -/
def IntM (P : Program) (kt et : TypeId) (w : World) (b n : Nat) (F : Int → Option Int) : Prop :=
  ∃ D : DataW Unit, w.ownsMap P kt (plainElem P et) b n D ∧ (∀ x, Maps.has D (.int .i64 x) = (F x).isSome) ∧ ∀ x, D.atKey (.int .i64 x) (.lit (.int .i64 0)) = .lit (.int .i64 ((F x).getD 0))
def putM (F : Int → Option Int) (f v : Int) : Int → Option Int := fun y => if y = f then some v else F y

section
variable {P : Program} {kt et : TypeId} {w w' : World} {b n : Nat} {F : Int → Option Int}
theorem IntM.lt (h : IntM P kt et w b n F) : b < w.heap.size := by obtain ⟨D, h1, _⟩ := h; exact h1.lt
theorem IntM.made (w : World) (P : Program) (kt et : TypeId) : IntM P kt et (w.alloc (.map #[] 0)) w.heap.size 0 (fun _ => none) :=
  ⟨.map [], World.ownsMap_made _ _ _ _, fun _ => rfl, fun _ => rfl⟩
theorem IntM.congr {F' : Int → Option Int} (h : IntM P kt et w b n F) (e : ∀ x, F x = F' x) : IntM P kt et w b n F' := by
  obtain ⟨D, h1, h2, h3⟩ := h; exact ⟨D, h1, fun x => by rw [h2, e], fun x => by rw [h3, e]⟩
theorem IntM.chg {T : List Nat} (h : IntM P kt et w b n F) (hc : Chg T w w') (hn : b ∉ T) : IntM P kt et w' b n F := by
  obtain ⟨D, h1, h2, h3⟩ := h; exact ⟨D, ownsMap_block h1 (hc.block b h1.lt hn), h2, h3⟩
theorem IntM.blk_ne {g : Nat} {t : TypeId} {cs : Array Value} (h : IntM P kt et w b n F) (hb : Blk w g t cs) : b ≠ g := by
  obtain ⟨D, ⟨es, clock, h1, _⟩, _⟩ := h
  intro e; subst e
  have := Eq.trans (Eq.symm h1) hb
  cases this

variable {ops : Array Oper} {rest : List Oper} {o : Oper} {a : Act} {Q : Exit → Act → World → Prop}
/-- 'v, ok := m[f]' -/
theorem wpList_lookup_intM (hg : o.guard = none) (m x : Operand) (t : TypeId) (hop : o.op = Op.lookup t m x true) (K : Keyed P kt) (ht : P.underlying t = some (.map kt et)) (hkt : P.underlying kt = some (.int .i64)) (het : P.underlying et = some (.int .i64))
    (hz : (zeroValue et).run P w = .ok (.int .i64 0) w) (b n : Nat) (F : Int → Option Int) (hm : a.eval m = .map (some b)) (hs : IntM P kt et w b n F) (f : Int) (hx : a.eval x = .int .i64 f) (hf : (Lit.int .i64 f).wf = true)
    (hK : wpList P ops Q rest (a.put o.dst (.tuple #[.int .i64 ((F f).getD 0), .bool (F f).isSome])) w) : wpList P ops Q (o :: rest) a w := by
  obtain ⟨D, hown, hS, hA⟩ := hs
  refine wpList_lookup_own_ok_int w hg m x t hop kt et .i64 K ht het hz b n D hm hown _ _ hx (keyOf_int_mk hkt hf) fun c hat _ => ?_
  have e : (F f).getD 0 = c := by
    have := (hA f).symm.trans hat
    injection this with this; injection this with this
  rw [hS, ← e]; exact hK
theorem wpList_lookup_intM_none (hg : o.guard = none) (m x : Operand) (t : TypeId) (hop : o.op = Op.lookup t m x true) (K : Keyed P kt) (ht : P.underlying t = some (.map kt et)) (hkt : P.underlying kt = some (.int .i64)) (het : P.underlying et = some (.int .i64))
    (hz : (zeroValue et).run P w = .ok (.int .i64 0) w) (b n : Nat) (F : Int → Option Int) (hm : a.eval m = .map (some b)) (hs : IntM P kt et w b n F) (f : Int) (hx : a.eval x = .int .i64 f) (hf : (Lit.int .i64 f).wf = true) (hF : F f = none)
    (hK : wpList P ops Q rest (a.put o.dst (.tuple #[.int .i64 0, .bool false])) w) : wpList P ops Q (o :: rest) a w := by
  refine wpList_lookup_intM hg m x t hop K ht hkt het hz b n F hm hs f hx hf ?_
  rw [hF]; exact hK
theorem wpList_lookup_intM_some (hg : o.guard = none) (m x : Operand) (t : TypeId) (hop : o.op = Op.lookup t m x true) (K : Keyed P kt) (ht : P.underlying t = some (.map kt et)) (hkt : P.underlying kt = some (.int .i64)) (het : P.underlying et = some (.int .i64))
    (hz : (zeroValue et).run P w = .ok (.int .i64 0) w) (b n : Nat) (F : Int → Option Int) (hm : a.eval m = .map (some b)) (hs : IntM P kt et w b n F) (f : Int) (hx : a.eval x = .int .i64 f) (hf : (Lit.int .i64 f).wf = true) (q : Int) (hF : F f = some q)
    (hK : wpList P ops Q rest (a.put o.dst (.tuple #[.int .i64 q, .bool true])) w) : wpList P ops Q (o :: rest) a w := by
  refine wpList_lookup_intM hg m x t hop K ht hkt het hz b n F hm hs f hx hf ?_
  rw [hF]; exact hK
/-- 'm[f] = v' -/
theorem wpList_store_intM (hg : o.guard = none) (m x v : Operand) (t : TypeId) (hop : o.op = Op.mapUpdate t m x v) (K : Keyed P kt) (ht : P.underlying t = some (.map kt et)) (hkt : P.underlying kt = some (.int .i64)) (het : P.underlying et = some (.int .i64))
    (b n : Nat) (F : Int → Option Int) (hm : a.eval m = .map (some b)) (hs : IntM P kt et w b n F) (hn : n < maxLen) (f y : Int) (hx : a.eval x = .int .i64 f) (hv : a.eval v = .int .i64 y) (hf : (Lit.int .i64 f).wf = true) (hy : (Lit.int .i64 y).wf = true)
    (hK : ∀ w', IntM P kt et w' b (n + 1) (putM F f y) → Chg [b] w w' → wpList P ops Q rest (a.put o.dst undef) w') : wpList P ops Q (o :: rest) a w := by
  obtain ⟨D, hown, hS, hA⟩ := hs
  refine wpList_mapUpdate_in w hg m x v t hop kt et K ht (plainElem P et) b n D hm hown hn _ _ _ hx hv (keyOf_int_mk hkt hf) _ _ (plainElem_int het hy) fun w' h1 h2 => hK w' ?_ ?_
  · refine ⟨_, h1, fun z => ?_, fun z => ?_⟩
    · by_cases hz : z = f
      · subst hz
        rw [Maps.has_put_same hown.isMap (by trivial)]; simp [putM]
      · rw [Maps.has_put_other (lit_ne hz), hS]; simp [putM, hz]
    · by_cases hz : z = f
      · subst hz
        rw [Maps.atKey_put_same hown.isMap (by trivial)]; simp [putM]
      · rw [Maps.atKey_put_other (lit_ne hz), hA]; simp [putM, hz]
  · exact Chg.of_grown h2.grown
end

/-- the first place of h in L -/
def locO (L : List Int) (h : Int) : Option Int := if L.contains h then some (L.idxOf h : Int) else none
theorem locO_nil (h : Int) : locO [] h = none := rfl
theorem locO_some (L : List Int) (h : Int) : (locO L h).isSome = L.contains h := by unfold locO; cases L.contains h <;> rfl
theorem locO_snoc (L : List Int) (f h : Int) (hf : L.contains f = false) : locO (L ++ [f]) h = putM (locO L) f L.length h := by
  have hf' : f ∉ L := fun hm => by rw [List.contains_iff_mem.2 hm] at hf; cases hf
  unfold locO putM
  by_cases e : h = f
  · subst e
    simp [List.idxOf_append, hf']
  · by_cases hm : h ∈ L
    · simp [e, hm, List.idxOf_append]
    · simp [e, hm]
theorem locO_at (L : List Int) (i : Nat) (hi : i < L.length) (hn : L.Nodup) : locO L (L.getD i 0) = some (i : Int) := by
  have e : L.getD i 0 = L[i] := by simp [List.getD_eq_getElem?_getD, List.getElem?_eq_getElem hi]
  rw [e]
  unfold locO
  rw [List.contains_iff_mem.2 (List.getElem_mem hi), if_pos rfl, hn.idxOf_getElem]
theorem locO_lt (L : List Int) (h q : Int) (hq : locO L h = some q) : 0 ≤ q ∧ q < L.length ∧ L.getD q.toNat 0 = h := by
  unfold locO at hq
  split at hq
  · rename_i hc
    have hm := List.contains_iff_mem.1 hc
    injection hq with hq; subst hq
    have hlt := List.idxOf_lt_length_of_mem hm
    exact ⟨by omega, by omega, by simp [List.getD_eq_getElem?_getD, List.getElem?_eq_getElem hlt]⟩
  · cases hq

theorem OwnI.slk {w : World} {t : TypeId} {k : IntKind} {A : Option Addr} {n c : Nat} {L : List Int} (h : OwnI w t k (.slice A n c) L) (hL : ∀ x ∈ L, k.min ≤ x ∧ x ≤ k.max) (hl : L.length ≤ 9223372036854775807) : SlK k w A n L := by
  have hn := h.slice
  subst hn
  refine ⟨rfl, hl, hL, fun h0 => ?_⟩
  obtain ⟨g, c', e, _⟩ := h.pos_ h0
  injection e with e1 e2 e3
  subst e1
  refine ⟨g, 0, rfl, h.lt g (by simp [Value.ownBlock]), fun j u hu => ?_⟩
  have hj := (List.getElem?_eq_some_iff.1 hu).1
  rw [Nat.zero_add, h.cell j hj]
  simp [List.getD_eq_getElem?_getD, hu]
theorem SlK.src {k : IntKind} {w : World} {A : Option Addr} {n c : Nat} {L : List Int} (h : SlK k w A n L) (hc : A = none → n = 0 ∧ c = 0) : Src w 1 A n c (vals k L) :=
  ⟨by rw [vals_len, h.len, Nat.mul_one], by simp [vals, Value.oneCell'], hc, fun a ha j u hu => by
    rw [vals_get] at hu
    cases hx : L[j]? with
    | none => rw [hx] at hu; cases hu
    | some x =>
      have hn : 0 < n := by have := (List.getElem?_eq_some_iff.1 hx).1; have := h.len; omega
      obtain ⟨b, off, e, _, hr⟩ := h.at_ hn
      rw [e] at ha; injection ha with ha; subst ha
      rw [hx] at hu; injection hu with hu; rw [← hu, add_at]; exact hr j x hx⟩
theorem SlK.drew {k : IntKind} {w : World} {A : Option Addr} {n : Nat} {L : List Int} (h : SlK k w A n L) : SlK k w.drew A n L := h.chg (Chg.refl _ _).drew

end Go.Proofs.YtdfmlodmaipnkaaGreatDoor
