/-
  Plain facts on worlds, blocks and lists that this seat's walks use: no program is named here.
-/
import Derived.WalkKit
import Derived.WalkSpells
import Derived.WalkLawsBesides
import Derived.Lib.Hide
import Derived.Deep.Draws
import Derived.Deep.MidRow
import Derived.ChangeKeysEq
import Derived.BigQuiet
import Derived.StillTailTactics
import Derived.Maps.AppendAt
namespace Go.Proofs.Ytikdoldmhlbklaa
open Go.RowKit

/-- block g is just the cells cs of element type t, none of them frozen -/
def Blk (w : World) (g : Nat) (t : TypeId) (cs : Array Value) : Prop := w.heap[g]? = some (.cells cs t (0, 0))

section
variable {w w' : World} {g : Nat} {t : TypeId} {cs : Array Value}
theorem Blk.lt (h : Blk w g t cs) : g < w.heap.size := (Array.getElem?_eq_some_iff.1 h).1
theorem Blk.cell (h : Blk w g t cs) (i : Nat) : w.cell? ⟨g, i, none⟩ = cs[i]? := by simp [World.cell?, show w.heap[g]? = _ from h]
theorem Blk.frozen (h : Blk w g t cs) (i : Nat) : w.frozen? ⟨g, i, none⟩ = false := frozen_of_row w g i cs t h
theorem Blk.eq_of (h : Blk w g t cs) (e : w'.heap[g]? = w.heap[g]?) : Blk w' g t cs := Eq.trans e h
theorem Blk.new (w : World) (t : TypeId) (cs : Array Value) : Blk (w.alloc (.cells cs t)) w.heap.size t cs := heap_alloc_new w _
theorem Blk.drew (h : Blk w g t cs) : Blk w.drew g t cs := h.eq_of rfl
theorem Blk.drewN (h : Blk w g t cs) (n : Nat) : Blk (w.drewN n) g t cs := h.eq_of rfl
theorem Blk.alloc (h : Blk w g t cs) (o : Obj) : Blk (w.alloc o) g t cs := h.eq_of (Below.heap_alloc w o g h.lt)
theorem Blk.set_ (h : Blk w g t cs) (i : Nat) (u : Value) : Blk (w.setCell ⟨g, i, none⟩ u) g t (cs.setIfInBounds i u) := heap_setCell_same w g i cs t u h
theorem Blk.far (h : Blk w g t cs) {p : Addr} (hp : g ≠ p.block) (u : Value) : Blk (w.setCell p u) g t cs := h.eq_of (heap_setCell_other w p g u hp)
theorem Blk.type_ne {g' : Nat} {t' : TypeId} {cs' : Array Value} (h : Blk w g t cs) (h' : Blk w g' t' cs') (ht : (t == t') = false) : g ≠ g' := fun e => by
  subst e
  have := Eq.trans (Eq.symm h) h'
  simp only [Option.some.injEq, Obj.cells.injEq] at this
  simp [this.2.1] at ht
end

/-- only the blocks of S, and new ones, have turned -/
structure Chg (S : List Nat) (w w' : World) : Prop where
  os : w'.os = w.os
  tape : w'.tape = w.tape
  output : w'.output = w.output
  size : w.heap.size ≤ w'.heap.size
  block : ∀ k, k < w.heap.size → k ∉ S → w'.heap[k]? = w.heap[k]?

section
variable {S T : List Nat} {a b c w w' : World}
theorem Chg.refl (S : List Nat) (w : World) : Chg S w w := ⟨rfl, rfl, rfl, Nat.le_refl _, fun _ _ _ => rfl⟩
theorem Chg.weak (h : Chg S a b) (hs : ∀ k, k < a.heap.size → k ∈ S → k ∈ T) : Chg T a b :=
  ⟨h.os, h.tape, h.output, h.size, fun k hk hn => h.block k hk fun hm => hn (hs k hk hm)⟩
theorem Chg.trans (h : Chg S a b) (k : Chg T b c) (hs : ∀ i, i < a.heap.size → i ∈ T → i ∈ S) : Chg S a c :=
  ⟨k.os.trans h.os, k.tape.trans h.tape, k.output.trans h.output, Nat.le_trans h.size k.size,
   fun i hi hn => (k.block i (Nat.lt_of_lt_of_le hi h.size) fun hm => hn (hs i hi hm)).trans (h.block i hi hn)⟩
theorem Chg.drew (h : Chg S a w) : Chg S a w.drew := ⟨h.os, h.tape, h.output, h.size, h.block⟩
theorem Chg.drewN (h : Chg S a w) (n : Nat) : Chg S a (w.drewN n) := ⟨h.os, h.tape, h.output, h.size, h.block⟩
theorem Chg.alloc (h : Chg S a w) (o : Obj) : Chg S a (w.alloc o) :=
  ⟨h.os, h.tape, h.output, Nat.le_trans h.size (by simp), fun k hk hn => (Below.heap_alloc w o k (Nat.lt_of_lt_of_le hk h.size)).trans (h.block k hk hn)⟩
theorem Chg.setCell (h : Chg S a w) {p : Addr} (hp : p.block < a.heap.size → p.block ∈ S) (u : Value) : Chg S a (w.setCell p u) :=
  ⟨h.os, h.tape, h.output, by simpa [World.setCell] using h.size, fun k hk hn => (Below.heap_setCell w p u k (fun e => hn (e ▸ hp (e ▸ hk)))).trans (h.block k hk hn)⟩
theorem Chg.blk {g : Nat} {t : TypeId} {cs : Array Value} (h : Chg S w w') (hb : Blk w g t cs) (hn : g ∉ S) : Blk w' g t cs := (h.block g hb.lt hn).trans hb
theorem Blk.chg_ {g : Nat} {t : TypeId} {cs : Array Value} (hb : Blk w g t cs) (h : Chg S w w') (hn : g ∉ S) : Blk w' g t cs := h.blk hb hn
theorem Chg.below (h : Chg [] a b) : Below a.heap.size a b := ⟨h.os, h.tape, h.output, h.size, fun k hk => h.block k hk (by simp)⟩
theorem Chg.of_below (h : Below a.heap.size a b) : Chg [] a b := ⟨h.os, h.tape, h.output, h.size, fun k hk _ => h.block k hk⟩
theorem Chg.cell (h : Chg S w w') {p : Addr} (hp : p.block < w.heap.size) (hn : p.block ∉ S) : w'.cell? p = w.cell? p := World.cell?_of_block (w := w) (h.block p.block hp hn)
end

theorem ret_int {k : IntKind} {a b : Int} (h : a = b) : Ending.returned (.int k a) = .returned (.int k b) := by rw [h]
theorem ret_bool {a b : Bool} (h : a = b) : Ending.returned (.bool a) = .returned (.bool b) := by rw [h]

/-- a list of 64-bit words as cells -/
def u64s (L : List Int) : Array Value := (L.map (Value.int .u64)).toArray
theorem u64s_get (L : List Int) (i : Nat) : (u64s L)[i]? = L[i]?.map (Value.int .u64) := by simp [u64s]
theorem u64s_set (L : List Int) (i : Nat) (v : Int) : (u64s L).setIfInBounds i (.int .u64 v) = u64s (L.set i v) := by
  simp [u64s, List.map_set]

theorem u64s_size (L : List Int) : (u64s L).size = L.length := by simp [u64s]

/-- make, of as many elements as there is room for -/
theorem run_mk {P : Program} {t e : TypeId} {i : TypeInfo} {z : Value} (ht : P.underlying t = some (.slice e)) (hi : P.info? e = some i) (hz : i.zero = some z)
    (n : Nat) (hb : i.bytes * n ≤ 281474976710656) (hn : n ≤ 9223372036854775807) (w : World) :
    (Instr.makeSlice t (.int .i64 n) (.int .i64 n)).run P w = .ok (.slice (some ⟨w.heap.size, 0, none⟩) n n) (w.alloc (.cells (madeCells z.cells (n * i.size)) e)) := by
  have h := run_make (P := P) w t e i z ht hi hz .i64 .i64 n n (Int.natCast_nonneg n) (Int.le_refl _) (by have := Int.ofNat_le.2 hb; simpa using this) (by omega)
  simpa using h

theorem madeCells_const (z : Array Value) (v : Value) (n m : Nat) (h0 : 0 < m) (h : z = (List.replicate m v).toArray) : madeCells z n = (List.replicate n v).toArray := by
  apply Array.ext_getElem?
  intro i
  subst h
  simp only [madeCells, Array.getElem?_map, List.getElem?_toArray, List.getElem?_replicate]
  by_cases hi : i < n
  · have h2 : i % m < m := Nat.mod_lt _ h0
    rw [Array.getElem?_eq_getElem (by simpa using hi), if_pos hi]
    simp only [Array.getElem_range, Option.map_some, Option.some.injEq]
    simp [h2]
  · rw [Array.getElem?_eq_none (by simpa using hi), if_neg hi]; rfl

/-- so many zeros (a name, that simp does not write out) -/
def zeros (n : Nat) : List Int := List.replicate n 0
theorem zeros_len (n : Nat) : (zeros n).length = n := by simp [zeros]
theorem u64s_zero (n : Nat) : (List.replicate n (Value.int .u64 0)).toArray = u64s (zeros n) := by simp [u64s, zeros]

/-- two rows of words, held against each other item by item -/
theorem run_eqItems_u64 {P : Program} (w : World) (d : Nat) (e : TypeId) (he : P.underlying e = some (.int .u64)) (A B : List Int) (n : Nat) (ha : A.length = n) (hb : B.length = n) :
    ∀ l : List Nat, (∀ i ∈ l, i < n) → (Op.eqItems (d + 1) e 1 (u64s A) (u64s B) l).run P w = .ok (l.all fun i => A.getD i 0 == B.getD i 0) w := by
  intro l
  induction l with
  | nil => intro _; simp [Op.eqItems]
  | cons i l ih =>
    intro hl
    have hi : i < n := hl i (by simp)
    have px : (part e (u64s A) (i * 1)).run P w = .ok (.int .u64 (A.getD i 0)) w := by
      simp [part, isAgg, run_underlying he, u64s, List.getD, List.getElem?_eq_getElem (show i < A.length by omega)]
    have py : (part e (u64s B) (i * 1)).run P w = .ok (.int .u64 (B.getD i 0)) w := by
      simp [part, isAgg, run_underlying he, u64s, List.getD, List.getElem?_eq_getElem (show i < B.length by omega)]
    simp only [Op.eqItems, Sem.run_bind, px, py, run_equalIn_int w d e .u64 .u64 _ _ he, Result.andThen_ok, List.all_cons]
    cases hb : (A.getD i 0 == B.getD i 0)
    · simp
    · simp only [Bool.not_true, Bool.false_eq_true, if_false, Bool.true_and]
      exact ih fun j hj => hl j (by simp [hj])

theorem all_range_getD (A B : List Int) (n : Nat) (ha : A.length = n) (hb : B.length = n) : ((List.range n).all fun i => A.getD i 0 == B.getD i 0) = (A == B) := by
  rw [Bool.eq_iff_iff]
  simp only [List.all_eq_true, List.mem_range, beq_iff_eq]
  constructor
  · intro h
    apply List.ext_getElem (by omega)
    intro i h1 h2
    have := h i (by omega)
    simpa [List.getD, List.getElem?_eq_getElem h1, List.getElem?_eq_getElem h2] using this
  · rintro rfl; simp

theorem run_neq_u64s {P : Program} (w : World) (t e : TypeId) (n : Nat) (i : TypeInfo) (ht : P.underlying t = some (.array n e)) (he : P.underlying e = some (.int .u64)) (hi : P.info? e = some i) (hc : P.cellsOf e = 1)
    (A B : List Int) (ha : A.length = n) (hb : B.length = n) : (binOp .neq t (.agg (u64s A)) (.agg (u64s B))).run P w = .ok (.bool (!(A == B))) w := by
  rw [run_neq_struct, run_equalIn_array w 9999 _ _ ht hi, hc, run_eqItems_u64 w 9998 e he A B n ha hb (List.range n) (fun i hi => by simpa using hi), all_range_getD A B n ha hb]
  rfl

/-- in a region that draws its order: a whole row is loaded -/
theorem quiet_load_mid {P : Program} {w : World} {K : Act → Prop} {op : Oper} {a : Act} (ty : TypeId) (x : Operand) (ho : op.op = .load ty x)
    (b o : Nat) (hx : a.eval x = .pointer (some ⟨b, o, none⟩)) (cs : List Value) (d : TypeDesc) (hc : w.rangeAt b o cs)
    (hu : P.underlying ty = some d) (hd : d.isRow = true) (hi : (P.info? ty).map (·.size) = some cs.length)
    (h : K (a.put op.dst (.agg cs.toArray))) : op.quiet P a (fun w' => ∃ n, w' = w.drewN n) K :=
  ⟨_, fun w' ⟨n, hn⟩ => by
    subst hn
    have hc' : (w.drewN n).rangeAt b o cs := hc
    unfold Oper.quietAt execOp
    simp only [ho, hx, Instr.loadAt, Instr.sureAddr, Sem.run_bind, Sem.run_pure, Result.andThen_ok, run_loadVar_mid (w.drewN n) b o ty cs d hc' hu hd hi]
    exact ⟨rfl, rfl⟩, h⟩

theorem Blk.range {w : World} {g : Nat} {t : TypeId} {L : List Int} (h : Blk w g t (u64s L)) (o _n : Nat) (cs : List Int) (hcs : ∀ j, j < cs.length → L[o + j]? = cs[j]?) : w.rangeAt g o (cs.map (Value.int .u64)) := fun j v hv => by
  have hj : j < cs.length := by
    rcases Nat.lt_or_ge j cs.length with h' | h'
    · exact h'
    · rw [List.getElem?_eq_none (by simpa using h')] at hv; cases hv
  rw [h.cell, u64s_get, hcs j hj]
  simpa using hv

/-- in a region that draws its order, ahead of its one store: a whole row is loaded -/
theorem still_load_mid {P : Program} {w : World} {K : Act → Prop} {op : Oper} {a : Act} (ty : TypeId) (x : Operand) (ho : op.op = .load ty x)
    (b o : Nat) (hx : a.eval x = .pointer (some ⟨b, o, none⟩)) (cs : List Value) (d : TypeDesc) (hc : w.rangeAt b o cs)
    (hu : P.underlying ty = some d) (hd : d.isRow = true) (hi : (P.info? ty).map (·.size) = some cs.length)
    (h : K (a.put op.dst (.agg cs.toArray))) : op.still P a w K := by
  unfold Oper.still execOp
  simp only [ho, hx, Instr.loadAt, Instr.sureAddr, Sem.run_bind, Sem.run_pure, Result.andThen_ok, run_loadVar_mid w b o ty cs d hc hu hd hi]
  exact ⟨rfl, h⟩

theorem wpStill_plain {P : Program} {ops : Array Oper} {w : World} {Q : Act → Prop} {a : Act} {o : Oper} {rest : List Oper} (hg : o.guard = none)
    (h : ∀ K : Act → Prop, (∀ a, wpStill P ops w Q rest a → K a) → o.still P a w K) : wpStill P ops w Q (o :: rest) a :=
  wpStill_step fun K hK => by simp only [Region.wanted, hg, if_true]; exact h K hK

theorem wpQuiet_plain {P : Program} {ops : Array Oper} {C : World → Prop} {Q : Act → Prop} {a : Act} {o : Oper} {rest : List Oper} (hg : o.guard = none)
    (h : ∀ K : Act → Prop, (∀ a, wpQuiet P ops C Q rest a → K a) → o.quiet P a C K) : wpQuiet P ops C Q (o :: rest) a :=
  wpQuiet_step fun K hK => by simp only [Region.wanted, hg, if_true]; exact h K hK

/-- words, one behind the other, are written from place o on -/
def setAll : List Int → Nat → List Int → List Int
  | L, _, [] => L
  | L, o, x :: r => setAll (L.set o x) (o + 1) r
theorem setAll_len : ∀ (xs L : List Int) (o : Nat), (setAll L o xs).length = L.length
  | [], _, _ => rfl
  | x :: r, L, o => by rw [setAll, setAll_len r]; simp
theorem setAll_get : ∀ (xs L : List Int) (o i : Nat), o + xs.length ≤ L.length → (setAll L o xs)[i]? = if o ≤ i ∧ i < o + xs.length then xs[i - o]? else L[i]?
  | [], L, o, i, _ => by simp [setAll]; omega
  | x :: r, L, o, i, h => by
    rw [setAll, setAll_get r _ _ _ (by simp at h ⊢; omega)]
    simp only [List.length_cons] at h ⊢
    by_cases h1 : o + 1 ≤ i ∧ i < o + 1 + r.length
    · rw [if_pos h1, if_pos (by omega), show i - o = (i - (o + 1)) + 1 from by omega, List.getElem?_cons_succ]
    · rw [if_neg h1, List.getElem?_set]
      by_cases h2 : o = i
      · subst h2
        rw [if_pos rfl, if_pos (by omega), if_pos (by omega)]; simp
      · rw [if_neg h2, if_neg (by omega)]
theorem setCells_blk {g : Nat} {t : TypeId} : ∀ (xs L : List Int) (o : Nat) (w : World), Blk w g t (u64s L) → Blk (w.setCells g o (xs.map (Value.int .u64))) g t (u64s (setAll L o xs))
  | [], _, _, _, h => h
  | x :: r, L, o, w, h => by
    rw [List.map_cons, World.setCells, setAll]
    exact setCells_blk r _ _ _ (u64s_set L o x ▸ h.set_ o _)
theorem Chg.setCells {S : List Nat} {a : World} {g : Nat} (hp : g < a.heap.size → g ∈ S) : ∀ (xs : List Value) (o : Nat) (w : World), Chg S a w → Chg S a (w.setCells g o xs)
  | [], _, _, h => h
  | x :: r, o, _, h => Chg.setCells hp r (o + 1) _ (h.setCell hp x)
theorem setCells_size (g : Nat) : ∀ (xs : List Value) (o : Nat) (w : World), (w.setCells g o xs).heap.size = w.heap.size
  | [], _, _ => rfl
  | x :: r, o, w => by rw [World.setCells, setCells_size g r]; simp
theorem Blk.there {w : World} {g : Nat} {t : TypeId} {cs : Array Value} (h : Blk w g t cs) (o n : Nat) (hn : o + n ≤ cs.size) : w.there g o n := fun j hj =>
  ⟨by rw [h.cell, Array.getElem?_eq_getElem (by omega)]; rfl, h.frozen _⟩
theorem far_setCells {_w : World} {g g' : Nat} {t : TypeId} {cs : Array Value} (hne : g' ≠ g) : ∀ (xs : List Value) (o : Nat) (w : World), Blk w g' t cs → Blk (w.setCells g o xs) g' t cs
  | [], _, _, h => h
  | x :: r, o, w, h => far_setCells (_w := w) hne r (o + 1) _ (h.far hne x)

/-- a slice of words, nil let in, reads as this list -/
structure SlU (w : World) (A : Option Addr) (n : Nat) (xs : List Int) : Prop where
  len : xs.length = n
  at_ : 0 < n → ∃ b off, A = some ⟨b, off, none⟩ ∧ b < w.heap.size ∧ ∀ j u, xs[j]? = some u → w.cell? ⟨b, off + j, none⟩ = some (.int .u64 u)
theorem SlU.nil (w : World) : SlU w none 0 [] := ⟨rfl, fun h => absurd h (by omega)⟩
theorem SlU.chg {S : List Nat} {w w' : World} {A : Option Addr} {n : Nat} {xs : List Int} (h : SlU w A n xs) (hc : Chg S w w') (hn : ∀ b off, A = some ⟨b, off, none⟩ → b ∉ S) : SlU w' A n xs :=
  ⟨h.len, fun h0 => by
    obtain ⟨b, off, rfl, hb, hr⟩ := h.at_ h0
    exact ⟨b, off, rfl, Nat.lt_of_lt_of_le hb hc.size, fun j u hu => (hc.cell (p := ⟨b, off + j, none⟩) hb (hn b off rfl)).trans (hr j u hu)⟩⟩
theorem SlU.of_blk {w : World} {g n : Nat} {t : TypeId} {L : List Int} (h : Blk w g t (u64s L)) (hn : L.length = n) : SlU w (some ⟨g, 0, none⟩) n L :=
  ⟨hn, fun _ => ⟨g, 0, rfl, h.lt, fun j u hu => by rw [h.cell, u64s_get, Nat.zero_add, hu]; rfl⟩⟩

theorem run_arrayAt {P : Program} (t e : TypeId) (n : Nat) (a : Addr) (m c : Nat) (ht : P.underlying t = some (.array n e)) (h : n ≤ m) (w : World) :
    (Instr.arrayAt t (.slice (some a) m c)).run P w = .ok (.pointer (some a)) w := by
  have h' : ¬ m < n := by omega
  simp [Instr.arrayAt, run_underlying ht, h']

/-- what append is given: m elements of so many cells each, nil let in -/
structure Src (w : World) (size : Nat) (A : Option Addr) (m c : Nat) (news : List Value) : Prop where
  len : news.length = m * size
  one : ∀ u ∈ news, u.oneCell' = true
  none_ : A = none → m = 0 ∧ c = 0
  at_ : ∀ a, A = some a → ∀ j u, news[j]? = some u → w.cell? (a.add j) = some u
theorem Src.nil (w : World) (size : Nat) : Src w size none 0 0 [] := ⟨by simp, by simp, fun _ => ⟨rfl, rfl⟩, by simp⟩
theorem add_at (b o j : Nat) : (⟨b, o, none⟩ : Addr).add j = ⟨b, o + j, none⟩ := by unfold Addr.add; split <;> simp_all

/-- append: the list behind it; only the list's own row may have turned -/
theorem run_append_src {P : Program} (w : World) (base : Nat) (t ty e : TypeId) (i : TypeInfo) (z : Value) (size bytes : Nat) (ht : P.underlying t = some (.slice e)) (hi : P.info? e = some i) (hz : i.zero = some z)
    (hsize : i.size = size) (hby : i.bytes = bytes) (hzs : z.cells.size = size) (hsz : 0 < size)
    (v : Value) (n : Nat) (xs : List Value) (hown : w.ownsRow base e size v n xs) (A : Option Addr) (m c : Nat) (news : List Value) (hs : Src w size A m c news)
    (hlen : n + m ≤ maxLen) (hbytes : (n + m) * bytes ≤ 140737488355328) (hbase : base ≤ w.heap.size) :
    ∃ v' w', (Builtin.append_ #[t, t] ty #[v, .slice A m c]).run P w = .ok v' w' ∧ w'.ownsRow base e size v' (n + m) (xs ++ news) ∧ Chg v.ownBlock.toList w w' ∧ (v'.ownBlock = v.ownBlock ∨ v'.ownBlock = some w.heap.size) := by
  cases A with
  | none =>
    obtain ⟨rfl, rfl⟩ := hs.none_ rfl
    have hnil : news = [] := List.eq_nil_of_length_eq_zero (by rw [hs.len, Nat.zero_mul])
    subst hnil
    exact ⟨v, w, run_append_owned_none w base t ty e i size ht hi v n xs hown, by simpa using hown, Chg.refl _ _, .inl rfl⟩
  | some a =>
    obtain ⟨v', w', h1, h2, h3, _, h5⟩ := run_append_own_at (P := P) w base t ty e i z size bytes ht hi hz hsize hby hzs hsz v n xs hown a m c news hs.len (hs.at_ a rfl) hs.one hlen hbytes hbase
    exact ⟨v', w', h1, h2, ⟨h3.os, h3.tape, h3.output, h3.size, fun k hk hn => h3.block k hk fun e => hn (by rw [← e]; simp)⟩, h5⟩

theorem wpList_append_src {P : Program} {w : World} {ops : Array Oper} {rest : List Oper} {o : Oper} {a : Act} {Q : Exit → Act → World → Prop} (hgd : o.guard = none) (s x : Operand) (t : TypeId)
    (ho : o.op = .call { callee := .builtin .append, args := #[s, x], argTypes := #[t, t] })
    (base : Nat) (e : TypeId) (i : TypeInfo) (z : Value) (size bytes : Nat) (ht : P.underlying t = some (.slice e)) (hi : P.info? e = some i) (hz : i.zero = some z)
    (hsize : i.size = size) (hby : i.bytes = bytes) (hzs : z.cells.size = size) (hsz : 0 < size)
    (v : Value) (n : Nat) (xs : List Value) (hv : a.eval s = v) (hown : w.ownsRow base e size v n xs) (A : Option Addr) (m c : Nat) (news : List Value) (hx : a.eval x = .slice A m c) (hs : Src w size A m c news)
    (hlen : n + m ≤ maxLen) (hbytes : (n + m) * bytes ≤ 140737488355328) (hbase : base ≤ w.heap.size)
    (h : ∀ v' w', w'.ownsRow base e size v' (n + m) (xs ++ news) → Chg v.ownBlock.toList w w' → (v'.ownBlock = v.ownBlock ∨ v'.ownBlock = some w.heap.size) → wpList P ops Q rest (a.put o.dst v') w') : wpList P ops Q (o :: rest) a w := by
  refine wpList_plain hgd fun K hK => ?_
  obtain ⟨v', w', h1, h2, h3, h4⟩ := run_append_src (P := P) w base t o.type e i z size bytes ht hi hz hsize hby hzs hsz v n xs hown A m c news hs hlen hbytes hbase
  unfold Oper.wp execOp
  simp only [ho, resolve, invoke, builtin, Sem.run_bind, Sem.run_pure, Result.andThen_ok, List.map_toArray, List.map_cons, List.map_nil, hv, hx, h1]
  exact hK _ _ (h v' w' h2 h3 h4)

/-- an own row is a block; it stays, where its block does -/
theorem own_blk {w : World} {base : Nat} {e : TypeId} {size n : Nat} {v : Value} {xs : List Value} (h : w.ownsRow base e size v n xs) (hn : 0 < n) :
    ∃ g c cur, v = .slice (some ⟨g, 0, none⟩) n c ∧ base ≤ g ∧ Blk w g e cur ∧ n ≤ c ∧ c ≤ maxLen ∧ cur.size = c * size ∧ cur.toList.take (n * size) = xs := by
  rcases h.2 with ⟨_, h0⟩ | ⟨g, c, cur, hv, hg, hb, h1, h2, h3, h4⟩
  · omega
  · exact ⟨g, c, cur, hv, hg, hb, h1, h2, h3, h4⟩
theorem own_chg {S : List Nat} {w w' : World} {base : Nat} {e : TypeId} {size n : Nat} {v : Value} {xs : List Value} (h : w.ownsRow base e size v n xs) (hc : Chg S w w') (hn : ∀ g, v.ownBlock = some g → g ∉ S) : w'.ownsRow base e size v n xs := by
  refine ⟨h.1, ?_⟩
  rcases h.2 with h0 | ⟨g, c, cur, hv, hg, hb, h1⟩
  · exact .inl h0
  · exact .inr ⟨g, c, cur, hv, hg, hc.blk (g := g) hb (hn g (by subst hv; rfl)), h1⟩
theorem own_form {w : World} {base : Nat} {e : TypeId} {size n : Nat} {v : Value} {xs : List Value} (h : w.ownsRow base e size v n xs) : ∃ A c, v = .slice A n c ∧ (A = none → n = 0 ∧ c = 0) ∧ ∀ a, A = some a → ∃ g, a = ⟨g, 0, none⟩ ∧ base ≤ g ∧ g < w.heap.size := by
  rcases h.2 with ⟨rfl, rfl⟩ | ⟨g, c, cur, hv, hg, hb, h1⟩
  · exact ⟨none, 0, rfl, fun _ => ⟨rfl, rfl⟩, by simp⟩
  · exact ⟨some ⟨g, 0, none⟩, c, hv, by simp, fun a ha => ⟨g, by injection ha with ha; exact ha.symm, hg, Blk.lt (t := e) (cs := cur) hb⟩⟩
/-- an own row of words is a slice of words -/
theorem own_slu {w : World} {base : Nat} {e : TypeId} {n c : Nat} {A : Option Addr} {L : List Int} (h : w.ownsRow base e 1 (.slice A n c) n (L.map (Value.int .u64))) : SlU w A n L := by
  have hl : L.length = n := by simpa using h.1
  refine ⟨hl, fun h0 => ?_⟩
  obtain ⟨g, c', cur, hv, hg, hb, h1, h2, h3, h4⟩ := own_blk h h0
  injection hv with hA
  refine ⟨g, 0, hA, hb.lt, fun j u hu => ?_⟩
  have hj : j < n := by rw [← hl]; exact (List.getElem?_eq_some_iff.1 hu).1
  have e1 := congrArg (fun l : List Value => l[j]?) h4
  simp only [List.getElem?_take, List.getElem?_map, hu, Nat.mul_one, if_pos hj, Array.getElem?_toList] at e1
  rw [Nat.zero_add, hb.cell]
  simpa using e1
theorem SlU.src {w : World} {A : Option Addr} {n c : Nat} {L : List Int} (h : SlU w A n L) (hc : A = none → n = 0 ∧ c = 0) : Src w 1 A n c (L.map (Value.int .u64)) :=
  ⟨by simp [h.len], by simp [Value.oneCell'], hc, fun a ha j u hu => by
    rw [List.getElem?_map] at hu
    cases hx : L[j]? with
    | none => rw [hx] at hu; cases hu
    | some x =>
      have hn : 0 < n := by have := (List.getElem?_eq_some_iff.1 hx).1; have := h.len; omega
      obtain ⟨b, off, e, _, hr⟩ := h.at_ hn
      rw [e] at ha; injection ha with ha; subst ha
      rw [hx] at hu; injection hu with hu; rw [← hu, add_at]; exact hr j x hx⟩

/-- are two lists the same? -/
def eqL (a b : List Int) : Bool := decide (a = b)
theorem eqL_self (a : List Int) : eqL a a = true := by simp [eqL]

end Go.Proofs.Ytikdoldmhlbklaa
