/-
 Structs in rows, whatever their fields: as cells, in slices that came in, in rows of one's own. No function of the program is named here.
-/
import Derived.Test.YtmbgepafpcbakaaGreatDoorG0K
import Derived.Laws.BytesArg
namespace Go.Proofs.YtmbgepafpcbakaaGreatDoor
open Go.RowKit
structure Enc (α : Type) where
 cl : α → List Value
 k : Nat
 pos : 0 < k
 len : ∀ x, (cl x).length = k
 one : ∀ x, ∀ u ∈ cl x, u.oneCell' = true
section
variable {α : Type} (E : Enc α)
def Enc.all (L : List α) : List Value := L.flatMap E.cl
theorem Enc.all_cons (x : α) (L : List α) : E.all (x :: L) = E.cl x ++ E.all L := rfl
theorem Enc.all_app (L M : List α) : E.all (L ++ M) = E.all L ++ E.all M := by simp [Enc.all]
theorem Enc.all_len : ∀ L : List α, (E.all L).length = L.length * E.k
 | [] => by simp [Enc.all]
 | x :: L => by rw [E.all_cons, List.length_append, Enc.all_len L, List.length_cons, E.len, Nat.add_mul, Nat.one_mul, Nat.add_comm]
theorem Enc.all_at : ∀ (L : List α) (j i : Nat), i < E.k → (E.all L)[j * E.k + i]? = L[j]?.bind fun x => (E.cl x)[i]?
 | [], j, i, _ => by simp [Enc.all]
 | x :: L, 0, i, hi => by
  rw [E.all_cons, List.getElem?_append_left (by rw [E.len]; omega)]; simp
 | x :: L, j + 1, i, hi => by
  rw [E.all_cons, List.getElem?_append_right (by rw [E.len, Nat.add_mul]; omega)]
  have e : (j + 1) * E.k + i - (E.cl x).length = j * E.k + i := by rw [E.len, Nat.add_mul]; omega
  rw [e, Enc.all_at L j i hi]; simp
theorem Enc.all_one' (L : List α) : ∀ u ∈ E.all L, u.oneCell' = true := by
 intro u hu
 obtain ⟨x, _, hu⟩ := List.mem_flatMap.1 hu
 exact E.one x u hu
def Enc.At (w : World) (b o : Nat) (x : α) : Prop := ∀ i u, (E.cl x)[i]? = some u → w.cell? ⟨b, o + i, none⟩ = some u
structure SlG (w : World) (A : Option Addr) (n : Nat) (L : List α) : Prop where
 len : L.length = n
 le : n ≤ 9223372036854775807
 at_ : 0 < n → ∃ b off, A = some ⟨b, off, none⟩ ∧ b < w.heap.size ∧ ∀ j x, L[j]? = some x → E.At w b (off + j * E.k) x
def OwnG (w : World) (t : TypeId) (v : Value) (L : List α) : Prop := w.ownsRow 0 t E.k v L.length (E.all L)
end
section
variable {α : Type} {E : Enc α} {w w' : World} {A : Option Addr} {n c : Nat} {L : List α} {t : TypeId} {v : Value}
theorem Enc.At.chg {S : List Nat} {b o : Nat} {x : α} (h : E.At w b o x) (hc : Chg S w w') (hb : b < w.heap.size) (hn : b ∉ S) : E.At w' b o x :=
 fun i u e => (hc.cell (p := ⟨b, o + i, none⟩) hb hn).trans (h i u e)
theorem SlG.nil (w : World) : SlG E w none 0 [] := ⟨rfl, by omega, fun h => absurd h (by omega)⟩
theorem SlG.chg {S : List Nat} (h : SlG E w A n L) (hc : Chg S w w') (hn : ∀ b off, A = some ⟨b, off, none⟩ → b ∉ S) : SlG E w' A n L :=
 ⟨h.len, h.le, fun h0 => by
  obtain ⟨b, off, rfl, hb, hr⟩ := h.at_ h0
  exact ⟨b, off, rfl, Nat.lt_of_lt_of_le hb hc.size, fun j x hx => (hr j x hx).chg hc hb (hn b off rfl)⟩⟩
theorem SlG.new (h : SlG E w A n L) (hc : Chg [] w w') : SlG E w' A n L := h.chg hc (by simp)
theorem SlG.get (h : SlG E w A n L) {k : Nat} (hk : k < n) : ∃ b off x, A = some ⟨b, off, none⟩ ∧ b < w.heap.size ∧ L[k]? = some x ∧ E.At w b (off + k * E.k) x := by
 obtain ⟨b, off, e, hb, hr⟩ := h.at_ (by omega)
 have hl := h.len
 have hj : L[k]? = some (L[k]'(by omega)) := List.getElem?_eq_getElem (by omega)
 exact ⟨b, off, _, e, hb, hj, hr k _ hj⟩
theorem SlG.src (h : SlG E w A n L) (hc : A = none → n = 0 ∧ c = 0) : Src w E.k A n c (E.all L) :=
 ⟨by rw [E.all_len, h.len], E.all_one' L, hc, fun a ha j u hu => by
  have hj := (List.getElem?_eq_some_iff.1 hu).1
  rw [E.all_len] at hj
  have hl := h.len
  have hp := E.pos
  obtain ⟨b, off, e, _, hr⟩ := h.at_ (by rw [← hl]; exact Nat.pos_of_mul_pos_right (Nat.lt_of_le_of_lt (Nat.zero_le _) hj) )
  rw [e] at ha; injection ha with ha; subst ha
  have hd : j = j / E.k * E.k + j % E.k := by have := Nat.div_add_mod j E.k; rw [Nat.mul_comm] at this; omega
  rw [hd, E.all_at L (j / E.k) (j % E.k) (Nat.mod_lt _ hp)] at hu
  have hlt : j / E.k < L.length := (Nat.div_lt_iff_lt_mul hp).2 hj
  rw [List.getElem?_eq_getElem hlt, Option.bind_some] at hu
  have := hr (j / E.k) _ (List.getElem?_eq_getElem hlt) _ _ hu
  rw [add_at, hd, ← Nat.add_assoc]; simpa [← hd] using this⟩
theorem OwnG.none_ (w : World) (t : TypeId) : OwnG E w t (.slice none 0 0) [] := World.ownsRow_nil _ _ _ _
theorem OwnG.chg {S : List Nat} (h : OwnG E w t v L) (hc : Chg S w w') (hn : ∀ g ∈ v.ownBlock.toList, g ∉ S) : OwnG E w' t v L := own_chg h hc fun g hg => hn g (by simp [hg])
theorem OwnG.new (h : OwnG E w t v L) (hc : Chg [] w w') : OwnG E w' t v L := h.chg hc (by simp)
theorem OwnG.lt (h : OwnG E w t v L) : ∀ g ∈ v.ownBlock.toList, g < w.heap.size := fun g hg => (World.ownsRow.lt h g (by simpa using hg)).2
theorem OwnG.form (h : OwnG E w t v L) : ∃ A c, v = .slice A L.length c ∧ (A = none → L.length = 0 ∧ c = 0) ∧ ∀ a, A = some a → ∃ g, a = ⟨g, 0, none⟩ ∧ g < w.heap.size := by
 obtain ⟨A, c, h1, h2, h3⟩ := own_form h
 exact ⟨A, c, h1, h2, fun a ha => by obtain ⟨g, e, _, hg⟩ := h3 a ha; exact ⟨g, e, hg⟩⟩
theorem OwnG.nil_ (h : OwnG E w t (.slice A n c) L) : A = none → n = 0 ∧ c = 0 := by
 obtain ⟨A', c', e, h1, _⟩ := h.form
 injection e with e1 e2 e3
 subst e1; subst e2; subst e3
 exact h1
theorem OwnG.cap (h : OwnG E w t (.slice A n c) L) : n ≤ c ∧ c ≤ 9223372036854775807 ∧ L.length = n := by
 rcases h.2 with ⟨h0, h1⟩ | ⟨g', c', cur, hv, _, hb, h1, h2, h3, h4⟩
 ·injection h0 with e1 e2 e3; subst e2; subst e3; exact ⟨by omega, by omega, h1⟩
 injection hv with e1 e2 e3; subst e2; subst e3; exact ⟨h1, by simpa [maxLen] using h2, rfl⟩
theorem OwnG.slg (h : OwnG E w t (.slice A n c) L) : SlG E w A n L := by
 have hcp := h.cap
 refine ⟨hcp.2.2, by omega, fun h0 => ?_⟩
 obtain ⟨g, c', cur, hv, _, hb, h1, h2, h3, h4⟩ := own_blk h (by omega)
 injection hv with hA
 refine ⟨g, 0, hA, hb.lt, fun j x hx i u hu => ?_⟩
 have hj := (List.getElem?_eq_some_iff.1 hx).1
 have hi := (List.getElem?_eq_some_iff.1 hu).1
 rw [E.len] at hi
 have hlt : j * E.k + i < L.length * E.k := by
  have := Nat.mul_le_mul_right E.k hj
  rw [Nat.succ_mul] at this; omega
 have e1 := congrArg (fun l : List Value => l[j * E.k + i]?) h4
 simp only [List.getElem?_take, if_pos hlt, Array.getElem?_toList] at e1
 rw [E.all_at L j i hi, hx, Option.bind_some, hu] at e1
 rw [Nat.zero_add, hb.cell]; exact e1
theorem OwnG.src (h : OwnG E w t (.slice A n c) L) : Src w E.k A n c (E.all L) := h.slg.src h.nil_
theorem OwnG.lit {g : Nat} {L : List α} (h : Blk w g t (E.all L).toArray) (hn : L.length ≤ 9223372036854775807) : OwnG E w t (.slice (some ⟨g, 0, none⟩) L.length L.length) L :=
 ⟨E.all_len L, .inr ⟨g, L.length, _, rfl, Nat.zero_le _, h, Nat.le_refl _, by simpa [maxLen] using hn, by simp [E.all_len], by rw [List.take_of_length_le (by simp [E.all_len])]⟩⟩
end
section
variable {α : Type} {E : Enc α} {P : Program}
theorem wpList_append_G {w : World} {ops : Array Oper} {rest : List Oper} {o : Oper} {a : Act} {Q : Exit → Act → World → Prop} (hgd : o.guard = none) (s x : Operand) (t : TypeId)
  (ho : o.op = .call { callee := .builtin .append, args := #[s, x], argTypes := #[t, t] }) (e : TypeId) (z : Value) (by_ : Nat) (ht : P.underlying t = some (.slice e)) (hi : ((P.info? e).map (fun i => (i.zero, i.size, i.bytes))) = some (some z, E.k, by_)) (hzs : z.cells.size = E.k)
  (v : Value) (L : List α) (hv : a.eval s = v) (hown : OwnG E w e v L) (A : Option Addr) (m c : Nat) (N : List α) (hx : a.eval x = .slice A m c) (hs : Src w E.k A m c (E.all N)) (hm : N.length = m)
  (hlen : L.length + m ≤ 1000000000 ∧ (L.length + m) * by_ ≤ 140737488355328)
  (h : ∀ v' w', OwnG E w' e v' (L ++ N) → Chg v.ownBlock.toList w w' → (v'.ownBlock = v.ownBlock ∨ v'.ownBlock = some w.heap.size) → wpList P ops Q rest (a.put o.dst v') w') : wpList P ops Q (o :: rest) a w := by
 obtain ⟨i0, hi0, hz0, hz1, hz2⟩ := info_parts hi
 refine wpList_append_src hgd s x t ho 0 e i0 z E.k by_ ht hi0 hz0 hz1 hz2 hzs E.pos v L.length (E.all L) hv hown A m c (E.all N) hx hs (by simp [maxLen]; omega) hlen.2 (Nat.zero_le _) fun v' w' h1 h2 h3 => h v' w' ?_ h2 h3
 unfold OwnG; rw [List.length_append, hm, E.all_app]; exact h1
theorem step_append_G {ops : Array Oper} {o : Oper} {a : Act} {w : World} {K : Act → World → Prop} {Q : Exit → Act → World → Prop} {E' : Prop} (d : Option Tmp) (hd : o.dst = d) (hw : Region.wanted o (yielded ops a.tmps) = true) (s x : Operand) (t : TypeId)
  (ho : o.op = .call { callee := .builtin .append, args := #[s, x], argTypes := #[t, t] }) (e : TypeId) (z : Value) (by_ : Nat) (ht : P.underlying t = some (.slice e)) (hi : ((P.info? e).map (fun i => (i.zero, i.size, i.bytes))) = some (some z, E.k, by_)) (hzs : z.cells.size = E.k)
  (v : Value) (L : List α) (hv : a.eval s = v) (hown : OwnG E w e v L) (A : Option Addr) (m c : Nat) (N : List α) (hx : a.eval x = .slice A m c) (hs : Src w E.k A m c (E.all N)) (hm : N.length = m)
  (hlen : L.length + m ≤ 1000000000 ∧ (L.length + m) * by_ ≤ 140737488355328)
  (h : ∀ v' w', OwnG E w' e v' (L ++ N) → Chg v.ownBlock.toList w w' → (v'.ownBlock = v.ownBlock ∨ v'.ownBlock = some w.heap.size) → K (a.put d v') w') :
  if Region.wanted o (yielded ops a.tmps) = true then Oper.wp P o a w K Q else E' := by
 obtain ⟨i0, hi0, hz0, hz1, hz2⟩ := info_parts hi
 rw [if_pos hw]
 subst hd
 obtain ⟨v', w', h1, h2, h3, h4⟩ := run_append_src (P := P) w 0 t o.type e i0 z E.k by_ ht hi0 hz0 hz1 hz2 hzs E.pos v L.length (E.all L) hown A m c (E.all N) hs (by simp [maxLen]; omega) hlen.2 (Nat.zero_le _)
 unfold Oper.wp execOp
 simp only [ho, resolve, invoke, builtin, Sem.run_bind, Sem.run_pure, Result.andThen_ok, List.map_toArray, List.map_cons, List.map_nil, hv, hx, h1]
 refine h v' w' ?_ h3 h4
 unfold OwnG; rw [List.length_append, hm, E.all_app]; exact h2
end
section
variable {α : Type} {E : Enc α} {w0 w w1 w2 : World} {t : TypeId} {v v' : Value} {L M : List α}
end
def numE (k : IntKind) : Enc Int := ⟨fun x => [.int k x], 1, by decide, fun _ => rfl, fun x u hu => by simp at hu; subst hu; rfl⟩
theorem numE_all (k : IntKind) (L : List Int) : (numE k).all L = L.map (Value.int k) := by
 unfold Enc.all numE
 induction L with
 | nil => rfl
 | cons x L ih => rw [List.flatMap_cons, ih]; rfl
theorem SlN.get {k : IntKind} {w : World} {A : Option Addr} {n : Nat} {L : List Int} (h : SlG (numE k) w A n L) {i : Nat} (hi : i < n) :
  ∃ b off x, A = some ⟨b, off, none⟩ ∧ b < w.heap.size ∧ L[i]? = some x ∧ w.cell? ⟨b, off + i, none⟩ = some (.int k x) := by
 obtain ⟨b, off, x, e, hb, hx, hc⟩ := h.get hi
 have := hc 0 _ rfl
 exact ⟨b, off, x, e, hb, hx, by simpa [numE] using this⟩
end Go.Proofs.YtmbgepafpcbakaaGreatDoor
