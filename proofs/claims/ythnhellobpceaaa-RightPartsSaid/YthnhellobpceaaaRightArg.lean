/-
  Lists of rights that a law appends to.
-/
import Derived.Test.YthnhellobpceaaaLawRightOrder
import Derived.Deep.RegionLaw
import Derived.Maps.Ext
namespace Go.Proofs.Ythnhellobpceaaa
open Go.RowKit

/-- the cells of a list of rights -/
def rcells (L : List Rg) : List Value := L.flatMap fun r => [.bool r.w, .bool r.u, .bool r.x]
theorem rcells_app (L M : List Rg) : rcells (L ++ M) = rcells L ++ rcells M := by simp [rcells]
theorem rcells_len : ∀ L : List Rg, (rcells L).length = L.length * 3
  | [] => rfl
  | r :: L => by
    show ([.bool r.w, .bool r.u, .bool r.x] ++ rcells L : List Value).length = _
    rw [List.length_append, rcells_len L]; simp; omega
theorem rcells_one : ∀ (L : List Rg), ∀ u ∈ rcells L, u.oneCell' = true := by
  intro L u hu
  simp only [rcells, List.mem_flatMap] at hu
  obtain ⟨r, _, hr⟩ := hu
  simp at hr
  rcases hr with rfl | rfl | rfl <;> rfl
theorem rcells_get : ∀ (L : List Rg) (j : Nat) (r : Rg), L[j]? = some r → (rcells L)[j * 3 + 0]? = some (.bool r.w) ∧ (rcells L)[j * 3 + 1]? = some (.bool r.u) ∧ (rcells L)[j * 3 + 2]? = some (.bool r.x)
  | [], j, r, h => by simp at h
  | q :: L, 0, r, h => by
    obtain rfl : q = r := by simpa using h
    exact ⟨rfl, rfl, rfl⟩
  | q :: L, j + 1, r, h => by
    have h' : L[j]? = some r := by simpa using h
    obtain ⟨h1, h2, h3⟩ := rcells_get L j r h'
    have e : ∀ i, (rcells (q :: L))[(j + 1) * 3 + i]? = (rcells L)[j * 3 + i]? := fun i => by
      show ([.bool q.w, .bool q.u, .bool q.x] ++ rcells L : List Value)[(j + 1) * 3 + i]? = _
      rw [List.getElem?_append_right (by simp; omega)]
      congr 1
      simp; omega
    rw [e, e, e]
    exact ⟨h1, h2, h3⟩

theorem SlR.src {w : World} {A : Option Addr} {n c : Nat} {L : List Rg} (h : SlR w A n L) (hc : A = none → n = 0 ∧ c = 0) : Src w 3 A n c (rcells L) :=
  ⟨by rw [rcells_len, h.len], rcells_one L, hc, fun a ha j u hu => by
    have hj := (List.getElem?_eq_some_iff.1 hu).1
    rw [rcells_len] at hj
    have hl := h.len
    obtain ⟨b, off, r, e, hb, hr, _⟩ := h.get (k := j / 3) (by omega)
    obtain ⟨b', off', e', _, hat⟩ := h.at_ (by omega)
    rw [ha] at e'; injection e' with e'; subst e'
    obtain ⟨c0, c1, c2⟩ := hat (j / 3) r hr
    obtain ⟨d0, d1, d2⟩ := rcells_get L (j / 3) r hr
    rw [add_at]
    have h3 : j % 3 = 0 ∨ j % 3 = 1 ∨ j % 3 = 2 := by omega
    rcases h3 with h3 | h3 | h3
    · rw [show j / 3 * 3 + 0 = j by omega, hu] at d0
      rw [show off' + j / 3 * 3 + 0 = off' + j by omega] at c0
      rw [c0, d0]
    · rw [show j / 3 * 3 + 1 = j by omega, hu] at d1
      rw [show off' + j / 3 * 3 + 1 = off' + j by omega] at c1
      rw [c1, d1]
    · rw [show j / 3 * 3 + 2 = j by omega, hu] at d2
      rw [show off' + j / 3 * 3 + 2 = off' + j by omega] at c2
      rw [c2, d2]⟩

/-- an own row of rights reads as a slice of them -/
theorem own_slr {w : World} {base : Nat} {e : TypeId} {n c : Nat} {A : Option Addr} {L : List Rg} (h : w.ownsRow base e 3 (.slice A n c) n (rcells L)) : SlR w A n L := by
  have hl : L.length = n := by have := h.1; rw [rcells_len] at this; omega
  refine ⟨hl, fun h0 => ?_⟩
  obtain ⟨g, c', cur, hv, hg, hb, h1, h2, h3, h4⟩ := own_blk h h0
  injection hv with hA
  refine ⟨g, 0, hA, hb.lt, fun j r hr => ?_⟩
  have hj : j < n := by rw [← hl]; exact (List.getElem?_eq_some_iff.1 hr).1
  obtain ⟨d0, d1, d2⟩ := rcells_get L j r hr
  have hat : ∀ i u, i < n * 3 → (rcells L)[i]? = some u → w.cell? ⟨g, i, none⟩ = some u := fun i u hi hu => by
    have e1 := congrArg (fun l : List Value => l[i]?) h4
    simp only [List.getElem?_take, if_pos hi, hu, Array.getElem?_toList] at e1
    rw [hb.cell]; exact e1
  rw [Nat.zero_add]
  exact ⟨hat _ _ (by omega) d0, hat _ _ (by omega) d1, hat _ _ (by omega) d2⟩

theorem own_made3 {w : World} {t : TypeId} {g : Nat} (h : Blk w g t #[]) : w.ownsRow 0 t 3 (.slice (some ⟨g, 0, none⟩) 0 0) 0 [] :=
  ⟨by simp, .inr ⟨g, 0, #[], rfl, Nat.zero_le _, h, Nat.le_refl _, by simp [maxLen], by simp, by simp⟩⟩
theorem own_nil3 (w : World) (t : TypeId) : w.ownsRow 0 t 3 (.slice none 0 0) 0 [] := ⟨by simp, .inl ⟨rfl, rfl⟩⟩

/-- append, as one step of a region that draws: nil let in -/
theorem step_append_src {P : Program} {ops : Array Oper} {o : Oper} {a : Act} {w : World} {K : Act → World → Prop} {Q : Exit → Act → World → Prop} {E : Prop} (hgd : o.guard = none) (s x : Operand) (t : TypeId)
    (ho : o.op = .call { callee := .builtin .append, args := #[s, x], argTypes := #[t, t] })
    (base : Nat) (e : TypeId) (i : TypeInfo) (z : Value) (size bytes : Nat) (ht : P.underlying t = some (.slice e)) (hi : P.info? e = some i) (hz : i.zero = some z)
    (hsize : i.size = size) (hby : i.bytes = bytes) (hzs : z.cells.size = size) (hsz : 0 < size)
    (v : Value) (n : Nat) (xs : List Value) (hv : a.eval s = v) (hown : w.ownsRow base e size v n xs) (A : Option Addr) (m c : Nat) (news : List Value) (hx : a.eval x = .slice A m c) (hs : Src w size A m c news)
    (hlen : n + m ≤ maxLen) (hbytes : (n + m) * bytes ≤ 140737488355328) (hbase : base ≤ w.heap.size) (n' : Nat) (hn' : n + m = n') (xs' : List Value) (hxs' : xs ++ news = xs')
    (h : ∀ v' w', w'.ownsRow base e size v' n' xs' → Chg v.ownBlock.toList w w' → (v'.ownBlock = v.ownBlock ∨ v'.ownBlock = some w.heap.size) → K (a.put o.dst v') w') :
    if Region.wanted o (yielded ops a.tmps) = true then Oper.wp P o a w K Q else E := by
  have hw : Region.wanted o (yielded ops a.tmps) = true := by simp [Region.wanted, hgd]
  rw [if_pos hw]
  subst hn'; subst hxs'
  obtain ⟨v', w', h1, h2, h3, h4⟩ := run_append_src (P := P) w base t o.type e i z size bytes ht hi hz hsize hby hzs hsz v n xs hown A m c news hs hlen hbytes hbase
  unfold Oper.wp execOp
  simp only [ho, resolve, invoke, builtin, Sem.run_bind, Sem.run_pure, Result.andThen_ok, List.map_toArray, List.map_cons, List.map_nil, hv, hx, h1]
  exact h v' w' h2 h3 h4

theorem right_info : ((Try.prog.info? 26).map (fun i => (i.zero, i.size, i.bytes))) = some (some (.agg #[.bool false, .bool false, .bool false]), 3, 3) := by kernel_rfl
theorem right_parts : ∃ i, Try.prog.info? 26 = some i ∧ i.zero = some (.agg #[.bool false, .bool false, .bool false]) ∧ i.size = 3 ∧ i.bytes = 3 := by
  have h := right_info
  cases hi : Try.prog.info? 26 with
  | none => rw [hi] at h; cases h
  | some i =>
    rw [hi] at h
    simp only [Option.map_some, Option.some.injEq, Prod.mk.injEq] at h
    exact ⟨i, rfl, h.1, h.2.1, h.2.2⟩

theorem grown_new {w0 W w5 : World} {v v5 : Value} (hW : Chg [] w0 W) (hv : ∀ i ∈ v.ownBlock.toList, w0.heap.size ≤ i) (hc5 : Chg v.ownBlock.toList W w5) (hv5 : v5.ownBlock = v.ownBlock ∨ v5.ownBlock = some W.heap.size) :
    Chg [] w0 w5 ∧ ∀ i ∈ v5.ownBlock.toList, w0.heap.size ≤ i := by
  refine ⟨hW.trans hc5 (by intro i hi hm; have := hv i hm; omega), ?_⟩
  intro i hi
  have := hW.size
  rcases hv5 with h | h
  · rw [h] at hi; exact hv i hi
  · rw [h] at hi; simp at hi; omega

theorem meet_app (L M : List Rg) : meetL (L ++ M) = (meetL L).and (meetL M) := by simp [meetL, Rg.and]
theorem all_snoc {L : List Rg} {k : Nat} {r : Rg} (f : Rg → Bool) (h : L[k]? = some r) : (L.take (k + 1)).all f = ((L.take k).all f && f r) := by
  have hk := (List.getElem?_eq_some_iff.1 h).1
  have he := (List.getElem?_eq_some_iff.1 h).2
  rw [List.take_succ_eq_append_getElem hk, he]
  simp
/-- each twice, from the last one on -/
def twice (L : List Rg) : List Rg := L.reverse.flatMap fun r => [r, r]
theorem twice_len (L : List Rg) : (twice L).length = 2 * L.length := by
  have h : ∀ M : List Rg, (M.flatMap fun r => [r, r]).length = 2 * M.length := fun M => by
    induction M with
    | nil => rfl
    | cons a M ih => rw [List.flatMap_cons, List.length_append, ih]; simp; omega
  unfold twice
  rw [h, List.length_reverse]
theorem flat2_take : ∀ (M : List Rg) (k : Nat) (r : Rg), M[k]? = some r → (M.flatMap fun r => [r, r]).take (2 * (k + 1)) = (M.flatMap fun r => [r, r]).take (2 * k) ++ [r, r]
  | [], k, r, h => by simp at h
  | a :: M, 0, r, h => by
    obtain rfl : a = r := by simpa using h
    simp [List.flatMap_cons]
  | a :: M, k + 1, r, h => by
    have h' : M[k]? = some r := by simpa using h
    have ih := flat2_take M k r h'
    rw [List.flatMap_cons]
    show List.take (2 * (k + 1 + 1)) (a :: a :: M.flatMap fun r => [r, r]) = List.take (2 * (k + 1)) (a :: a :: M.flatMap fun r => [r, r]) ++ [r, r]
    rw [show 2 * (k + 1 + 1) = 2 * (k + 1) + 1 + 1 by omega, show 2 * (k + 1) = 2 * k + 1 + 1 by omega]
    rw [List.take_succ_cons, List.take_succ_cons, List.take_succ_cons, List.take_succ_cons, show 2 * k + 1 + 1 = 2 * (k + 1) by omega, ih]
    rfl
theorem twice_snoc {L : List Rg} {k q : Nat} {r : Rg} (hq : q + k + 1 = L.length) (h : L[q]? = some r) : (twice L).take (2 * (k + 1)) = (twice L).take (2 * k) ++ [r, r] := by
  refine flat2_take _ _ _ ?_
  rw [List.getElem?_reverse (by omega), show L.length - 1 - k = q by omega]; exact h
theorem twice_all (L : List Rg) : (twice L).take (2 * L.length) = twice L := by rw [← twice_len, List.take_length]
theorem meet_twice (L : List Rg) : meetL (twice L) = meetL L := by
  have h : ∀ f : Rg → Bool, (twice L).all f = L.all f := fun f => by
    rw [Bool.eq_iff_iff]
    simp only [twice, List.all_eq_true, List.mem_flatMap, List.mem_reverse]
    constructor
    · intro h x hx; exact h x ⟨x, hx, by simp⟩
    · rintro h x ⟨y, hy, hm⟩
      simp at hm; subst hm; exact h _ hy
  simp [meetL, h]
theorem under_meet (x : Rg) (L : List Rg) : under x (meetL L) = L.all (under x) := by
  rw [Bool.eq_iff_iff, under_iff]
  simp only [meetL, List.all_eq_true, under_iff]
  constructor
  · rintro ⟨h1, h2, h3⟩ y hy; exact ⟨fun h => h1 h y hy, fun h => h2 h y hy, fun h => h3 h y hy⟩
  · intro h; exact ⟨fun k y hy => (h y hy).1 k, fun k y hy => (h y hy).2.1 k, fun k y hy => (h y hy).2.2 k⟩
theorem meet_under {L : List Rg} {r : Rg} (h : r ∈ L) : under (meetL L) r = true := by
  have := under_meet (meetL L) L
  rw [under_self] at this
  exact List.all_eq_true.1 this.symm r h
theorem under_all (x : Rg) : under x Rg.all = true := by
  rw [under_iff]; simp [Rg.all]

end Go.Proofs.Ythnhellobpceaaa
