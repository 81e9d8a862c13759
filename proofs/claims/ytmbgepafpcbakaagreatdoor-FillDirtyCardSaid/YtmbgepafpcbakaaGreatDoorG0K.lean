/-
 Lib, Cls, Fields, Lib2, Ints, Lib3, Round in one text.
-/
import Derived.WalkKit
import Derived.WalkSpells
import Derived.WalkLawsBesides
import Derived.Lib.Hide
import Derived.Deep.Draws
import Derived.Deep.MidRow
import Derived.ChangeKeysEq
import Derived.BigQuiet
import Derived.StillTailTactics
import Derived.Maps.AppendAt
import Derived.BigRegion
import Derived.Deep.RegionHeld3
import Derived.Test.YtmbgepafpcbakaaGreatDoorProg
import Derived.Laws.StructEq
import Derived.Maps.OwnSet
import Derived.Maps.OwnOps
import Derived.Lib.SliceRun
import Derived.RangeFuncNested
import Derived.RangeFuncBound
import Derived.RangeFuncCalls
import Derived.RangeFuncLeaves
import Derived.RangeFuncBox
import Derived.Shelf.Abstract
import Derived.Shelf.RegionOpen
import Derived.OwnWalkIn
import Derived.TacticsInMore
import Derived.LoopNIn
import Derived.LoopIn
namespace Go.Proofs.YtmbgepafpcbakaaGreatDoor
open Go.RowKit
theorem qA {α : Type} {l : List α} {i : Nat} : l.toArray[i]? = l[i]? := by simp only [List.getElem?_toArray]
theorem qZ {α : Type} {a : α} {l : List α} : (a :: l)[0]? = some a := rfl
theorem qS {α : Type} {a : α} {l : List α} {i : Nat} : (a :: l)[i + 1]? = l[i]? := rfl
theorem qI {α : Type} {l : List α} {i : Nat} {a : α} : l.toArray.setIfInBounds i a = (l.set i a).toArray := by simp only [List.setIfInBounds_toArray]
theorem qO {α : Type} {x a : α} {l : List α} : (x :: l).set 0 a = a :: l := rfl
theorem qU {α : Type} {x a : α} {l : List α} {i : Nat} : (x :: l).set (i + 1) a = x :: l.set i a := rfl
def Blk (w : World) (g : Nat) (t : TypeId) (cs : Array Value) : Prop := w.heap[g]? = some (.cells cs t (0, 0))
section
variable {w w' : World} {g : Nat} {t : TypeId} {cs : Array Value}
theorem Blk.lt (h : Blk w g t cs) : g < w.heap.size := (Array.getElem?_eq_some_iff.1 h).1
theorem Blk.cell (h : Blk w g t cs) (i : Nat) : w.cell? ⟨g, i, none⟩ = cs[i]? := by simp [World.cell?, show w.heap[g]? = _ from h]
theorem Blk.frozen (h : Blk w g t cs) (i : Nat) : w.frozen? ⟨g, i, none⟩ = false := frozen_of_row w g i cs t h
theorem Blk.eq_of (h : Blk w g t cs) (e : w'.heap[g]? = w.heap[g]?) : Blk w' g t cs := Eq.trans e h
theorem Blk.new (w : World) (t : TypeId) (cs : Array Value) : Blk (w.alloc (.cells cs t)) w.heap.size t cs := heap_alloc_new w _
theorem Blk.drew (h : Blk w g t cs) : Blk w.drew g t cs := h.eq_of rfl
theorem Blk.drewN (h : Blk w g t cs) (n : Nat) : Blk (w.drewN n) g t cs := h.eq_of rfl
theorem Blk.alloc (h : Blk w g t cs) (o : Obj) : Blk (w.alloc o) g t cs := h.eq_of (Below.heap_alloc w o g h.lt)
theorem Blk.set_ (h : Blk w g t cs) (i : Nat) (u : Value) : Blk (w.setCell ⟨g, i, none⟩ u) g t (cs.setIfInBounds i u) := heap_setCell_same w g i cs t u h
theorem Blk.far (h : Blk w g t cs) {p : Addr} (hp : g ≠ p.block) (u : Value) : Blk (w.setCell p u) g t cs := h.eq_of (heap_setCell_other w p g u hp)
theorem Blk.type_ne {g' : Nat} {t' : TypeId} {cs' : Array Value} (h : Blk w g t cs) (h' : Blk w g' t' cs') (ht : (t == t') = false) : g ≠ g' := fun e => by
 subst e
 have := Eq.trans (Eq.symm h) h'
 simp only [Option.some.injEq, Obj.cells.injEq] at this
 simp [this.2.1] at ht
end
structure Chg (S : List Nat) (w w' : World) : Prop where
 os : w'.os = w.os
 tape : w'.tape = w.tape
 output : w'.output = w.output
 size : w.heap.size ≤ w'.heap.size
 block : ∀ k, k < w.heap.size → k ∉ S → w'.heap[k]? = w.heap[k]?
section
variable {S T : List Nat} {a b c w w' : World}
theorem Chg.refl (S : List Nat) (w : World) : Chg S w w := ⟨rfl, rfl, rfl, Nat.le_refl _, fun _ _ _ => rfl⟩
theorem Chg.weak (h : Chg S a b) (hs : ∀ k, k < a.heap.size → k ∈ S → k ∈ T) : Chg T a b :=
 ⟨h.os, h.tape, h.output, h.size, fun k hk hn => h.block k hk fun hm => hn (hs k hk hm)⟩
theorem Chg.trans (h : Chg S a b) (k : Chg T b c) (hs : ∀ i, i < a.heap.size → i ∈ T → i ∈ S) : Chg S a c :=
  ⟨k.os.trans h.os, k.tape.trans h.tape, k.output.trans h.output, Nat.le_trans h.size k.size,
   fun i hi hn => (k.block i (Nat.lt_of_lt_of_le hi h.size) fun hm => hn (hs i hi hm)).trans (h.block i hi hn)⟩
theorem Chg.drew (h : Chg S a w) : Chg S a w.drew := ⟨h.os, h.tape, h.output, h.size, h.block⟩
theorem Chg.drewN (h : Chg S a w) (n : Nat) : Chg S a (w.drewN n) := ⟨h.os, h.tape, h.output, h.size, h.block⟩
theorem Chg.alloc (h : Chg S a w) (o : Obj) : Chg S a (w.alloc o) :=
 ⟨h.os, h.tape, h.output, Nat.le_trans h.size (by simp), fun k hk hn => (Below.heap_alloc w o k (Nat.lt_of_lt_of_le hk h.size)).trans (h.block k hk hn)⟩
theorem Chg.setCell (h : Chg S a w) {p : Addr} (hp : p.block < a.heap.size → p.block ∈ S) (u : Value) : Chg S a (w.setCell p u) :=
 ⟨h.os, h.tape, h.output, by simpa [World.setCell] using h.size, fun k hk hn => (Below.heap_setCell w p u k (fun e => hn (e ▸ hp (e ▸ hk)))).trans (h.block k hk hn)⟩
theorem Chg.blk {g : Nat} {t : TypeId} {cs : Array Value} (h : Chg S w w') (hb : Blk w g t cs) (hn : g ∉ S) : Blk w' g t cs := (h.block g hb.lt hn).trans hb
theorem Blk.chg_ {g : Nat} {t : TypeId} {cs : Array Value} (hb : Blk w g t cs) (h : Chg S w w') (hn : g ∉ S) : Blk w' g t cs := h.blk hb hn
theorem Chg.below (h : Chg [] a b) : Below a.heap.size a b := ⟨h.os, h.tape, h.output, h.size, fun k hk => h.block k hk (by simp)⟩
theorem Chg.of_below (h : Below a.heap.size a b) : Chg [] a b := ⟨h.os, h.tape, h.output, h.size, fun k hk _ => h.block k hk⟩
theorem Chg.cell (h : Chg S w w') {p : Addr} (hp : p.block < w.heap.size) (hn : p.block ∉ S) : w'.cell? p = w.cell? p := World.cell?_of_block (w := w) (h.block p.block hp hn)
end
theorem ret_int {k : IntKind} {a b : Int} (h : a = b) : Ending.returned (.int k a) = .returned (.int k b) := by rw [h]
theorem ret_bool {a b : Bool} (h : a = b) : Ending.returned (.bool a) = .returned (.bool b) := by rw [h]
def u64s (L : List Int) : Array Value := (L.map (Value.int .u64)).toArray
theorem u64s_get (L : List Int) (i : Nat) : (u64s L)[i]? = L[i]?.map (Value.int .u64) := by simp [u64s]
theorem u64s_set (L : List Int) (i : Nat) (v : Int) : (u64s L).setIfInBounds i (.int .u64 v) = u64s (L.set i v) := by
 simp [u64s, List.map_set]
theorem run_mk {P : Program} {t e : TypeId} {i : TypeInfo} {z : Value} (ht : P.underlying t = some (.slice e)) (hi : P.info? e = some i) (hz : i.zero = some z)
  (n : Nat) (hb : i.bytes * n ≤ 281474976710656) (hn : n ≤ 9223372036854775807) (w : World) :
  (Instr.makeSlice t (.int .i64 n) (.int .i64 n)).run P w = .ok (.slice (some ⟨w.heap.size, 0, none⟩) n n) (w.alloc (.cells (madeCells z.cells (n * i.size)) e)) := by
 have h := run_make (P := P) w t e i z ht hi hz .i64 .i64 n n (Int.natCast_nonneg n) (Int.le_refl _) (by have := Int.ofNat_le.2 hb; simpa using this) (by omega)
 simpa using h
theorem madeCells_const (z : Array Value) (v : Value) (n m : Nat) (h0 : 0 < m) (h : z = (List.replicate m v).toArray) : madeCells z n = (List.replicate n v).toArray := by
 apply Array.ext_getElem?
 intro i
 subst h
 simp only [madeCells, Array.getElem?_map, qA, List.getElem?_replicate]
 by_cases hi : i < n
 ·have h2 : i % m < m := Nat.mod_lt _ h0
  rw [Array.getElem?_eq_getElem (by simpa using hi), if_pos hi]
  simp only [Array.getElem_range, Option.map_some, Option.some.injEq]
  simp [h2]
 rw [Array.getElem?_eq_none (by simpa using hi), if_neg hi]; rfl
def zeros (n : Nat) : List Int := List.replicate n 0
theorem zeros_len (n : Nat) : (zeros n).length = n := by simp [zeros]
theorem u64s_zero (n : Nat) : (List.replicate n (Value.int .u64 0)).toArray = u64s (zeros n) := by simp [u64s, zeros]
theorem still_load_mid {P : Program} {w : World} {K : Act → Prop} {op : Oper} {a : Act} (ty : TypeId) (x : Operand) (ho : op.op = .load ty x)
  (b o : Nat) (hx : a.eval x = .pointer (some ⟨b, o, none⟩)) (cs : List Value) (d : TypeDesc) (hc : w.rangeAt b o cs)
  (hu : P.underlying ty = some d) (hd : d.isRow = true) (hi : (P.info? ty).map (·.size) = some cs.length)
  (h : K (a.put op.dst (.agg cs.toArray))) : op.still P a w K := by
 unfold Oper.still execOp
 simp only [ho, hx, Instr.loadAt, Instr.sureAddr, Sem.run_bind, Sem.run_pure, Result.andThen_ok, run_loadVar_mid w b o ty cs d hc hu hd hi]
 exact ⟨rfl, h⟩
theorem wpStill_plain {P : Program} {ops : Array Oper} {w : World} {Q : Act → Prop} {a : Act} {o : Oper} {rest : List Oper} (hg : o.guard = none)
  (h : ∀ K : Act → Prop, (∀ a, wpStill P ops w Q rest a → K a) → o.still P a w K) : wpStill P ops w Q (o :: rest) a :=
 wpStill_step fun K hK => by simp only [Region.wanted, hg, if_true]; exact h K hK
def setAll : List Int → Nat → List Int → List Int
 | L, _, [] => L
 | L, o, x :: r => setAll (L.set o x) (o + 1) r
theorem setAll_len : ∀ (xs L : List Int) (o : Nat), (setAll L o xs).length = L.length
 | [], _, _ => rfl
 | x :: r, L, o => by rw [setAll, setAll_len r]; simp
theorem setAll_get : ∀ (xs L : List Int) (o i : Nat), o + xs.length ≤ L.length → (setAll L o xs)[i]? = if o ≤ i ∧ i < o + xs.length then xs[i - o]? else L[i]?
 | [], L, o, i, _ => by simp [setAll]; omega
 | x :: r, L, o, i, h => by
  rw [setAll, setAll_get r _ _ _ (by simp at h ⊢; omega)]
  simp only [List.length_cons] at h ⊢
  by_cases h1 : o + 1 ≤ i ∧ i < o + 1 + r.length
  ·rw [if_pos h1, if_pos (by omega), show i - o = (i - (o + 1)) + 1 from by omega, qS]
  rw [if_neg h1, List.getElem?_set]
  by_cases h2 : o = i
  ·subst h2
   rw [if_pos rfl, if_pos (by omega), if_pos (by omega)]; simp
  rw [if_neg h2, if_neg (by omega)]
theorem Chg.setCells {S : List Nat} {a : World} {g : Nat} (hp : g < a.heap.size → g ∈ S) : ∀ (xs : List Value) (o : Nat) (w : World), Chg S a w → Chg S a (w.setCells g o xs)
 | [], _, _, h => h
 | x :: r, o, _, h => Chg.setCells hp r (o + 1) _ (h.setCell hp x)
theorem Blk.there {w : World} {g : Nat} {t : TypeId} {cs : Array Value} (h : Blk w g t cs) (o n : Nat) (hn : o + n ≤ cs.size) : w.there g o n := fun j hj =>
 ⟨by rw [h.cell, Array.getElem?_eq_getElem (by omega)]; rfl, h.frozen _⟩
structure SlU (w : World) (A : Option Addr) (n : Nat) (xs : List Int) : Prop where
 len : xs.length = n
 at_ : 0 < n → ∃ b off, A = some ⟨b, off, none⟩ ∧ b < w.heap.size ∧ ∀ j u, xs[j]? = some u → w.cell? ⟨b, off + j, none⟩ = some (.int .u64 u)
theorem SlU.nil (w : World) : SlU w none 0 [] := ⟨rfl, fun h => absurd h (by omega)⟩
theorem SlU.of_blk {w : World} {g n : Nat} {t : TypeId} {L : List Int} (h : Blk w g t (u64s L)) (hn : L.length = n) : SlU w (some ⟨g, 0, none⟩) n L :=
 ⟨hn, fun _ => ⟨g, 0, rfl, h.lt, fun j u hu => by rw [h.cell, u64s_get, Nat.zero_add, hu]; rfl⟩⟩
structure Src (w : World) (size : Nat) (A : Option Addr) (m c : Nat) (news : List Value) : Prop where
 len : news.length = m * size
 one : ∀ u ∈ news, u.oneCell' = true
 none_ : A = none → m = 0 ∧ c = 0
 at_ : ∀ a, A = some a → ∀ j u, news[j]? = some u → w.cell? (a.add j) = some u
theorem add_at (b o j : Nat) : (⟨b, o, none⟩ : Addr).add j = ⟨b, o + j, none⟩ := by unfold Addr.add; split <;> simp_all
theorem run_append_src {P : Program} (w : World) (base : Nat) (t ty e : TypeId) (i : TypeInfo) (z : Value) (size bytes : Nat) (ht : P.underlying t = some (.slice e)) (hi : P.info? e = some i) (hz : i.zero = some z)
  (hsize : i.size = size) (hby : i.bytes = bytes) (hzs : z.cells.size = size) (hsz : 0 < size)
  (v : Value) (n : Nat) (xs : List Value) (hown : w.ownsRow base e size v n xs) (A : Option Addr) (m c : Nat) (news : List Value) (hs : Src w size A m c news)
  (hlen : n + m ≤ maxLen) (hbytes : (n + m) * bytes ≤ 140737488355328) (hbase : base ≤ w.heap.size) :
  ∃ v' w', (Builtin.append_ #[t, t] ty #[v, .slice A m c]).run P w = .ok v' w' ∧ w'.ownsRow base e size v' (n + m) (xs ++ news) ∧ Chg v.ownBlock.toList w w' ∧ (v'.ownBlock = v.ownBlock ∨ v'.ownBlock = some w.heap.size) := by
 cases A with
 | none =>
  obtain ⟨rfl, rfl⟩ := hs.none_ rfl
  have hnil : news = [] := List.eq_nil_of_length_eq_zero (by rw [hs.len, Nat.zero_mul])
  subst hnil
  exact ⟨v, w, run_append_owned_none w base t ty e i size ht hi v n xs hown, by simpa using hown, Chg.refl _ _, .inl rfl⟩
 | some a =>
  obtain ⟨v', w', h1, h2, h3, _, h5⟩ := run_append_own_at (P := P) w base t ty e i z size bytes ht hi hz hsize hby hzs hsz v n xs hown a m c news hs.len (hs.at_ a rfl) hs.one hlen hbytes hbase
  exact ⟨v', w', h1, h2, ⟨h3.os, h3.tape, h3.output, h3.size, fun k hk hn => h3.block k hk fun e => hn (by rw [← e]; simp)⟩, h5⟩
theorem wpList_append_src {P : Program} {w : World} {ops : Array Oper} {rest : List Oper} {o : Oper} {a : Act} {Q : Exit → Act → World → Prop} (hgd : o.guard = none) (s x : Operand) (t : TypeId)
  (ho : o.op = .call { callee := .builtin .append, args := #[s, x], argTypes := #[t, t] })
  (base : Nat) (e : TypeId) (i : TypeInfo) (z : Value) (size bytes : Nat) (ht : P.underlying t = some (.slice e)) (hi : P.info? e = some i) (hz : i.zero = some z)
  (hsize : i.size = size) (hby : i.bytes = bytes) (hzs : z.cells.size = size) (hsz : 0 < size)
  (v : Value) (n : Nat) (xs : List Value) (hv : a.eval s = v) (hown : w.ownsRow base e size v n xs) (A : Option Addr) (m c : Nat) (news : List Value) (hx : a.eval x = .slice A m c) (hs : Src w size A m c news)
  (hlen : n + m ≤ maxLen) (hbytes : (n + m) * bytes ≤ 140737488355328) (hbase : base ≤ w.heap.size)
  (h : ∀ v' w', w'.ownsRow base e size v' (n + m) (xs ++ news) → Chg v.ownBlock.toList w w' → (v'.ownBlock = v.ownBlock ∨ v'.ownBlock = some w.heap.size) → wpList P ops Q rest (a.put o.dst v') w') : wpList P ops Q (o :: rest) a w := by
 refine wpList_plain hgd fun K hK => ?_
 obtain ⟨v', w', h1, h2, h3, h4⟩ := run_append_src (P := P) w base t o.type e i z size bytes ht hi hz hsize hby hzs hsz v n xs hown A m c news hs hlen hbytes hbase
 unfold Oper.wp execOp
 simp only [ho, resolve, invoke, builtin, Sem.run_bind, Sem.run_pure, Result.andThen_ok, List.map_toArray, List.map_cons, List.map_nil, hv, hx, h1]
 exact hK _ _ (h v' w' h2 h3 h4)
theorem own_blk {w : World} {base : Nat} {e : TypeId} {size n : Nat} {v : Value} {xs : List Value} (h : w.ownsRow base e size v n xs) (hn : 0 < n) :
  ∃ g c cur, v = .slice (some ⟨g, 0, none⟩) n c ∧ base ≤ g ∧ Blk w g e cur ∧ n ≤ c ∧ c ≤ maxLen ∧ cur.size = c * size ∧ cur.toList.take (n * size) = xs := by
 rcases h.2 with ⟨_, h0⟩ | ⟨g, c, cur, hv, hg, hb, h1, h2, h3, h4⟩
 ·omega
 exact ⟨g, c, cur, hv, hg, hb, h1, h2, h3, h4⟩
theorem own_chg {S : List Nat} {w w' : World} {base : Nat} {e : TypeId} {size n : Nat} {v : Value} {xs : List Value} (h : w.ownsRow base e size v n xs) (hc : Chg S w w') (hn : ∀ g, v.ownBlock = some g → g ∉ S) : w'.ownsRow base e size v n xs := by
 refine ⟨h.1, ?_⟩
 rcases h.2 with h0 | ⟨g, c, cur, hv, hg, hb, h1⟩
 ·exact .inl h0
 exact .inr ⟨g, c, cur, hv, hg, hc.blk (g := g) hb (hn g (by subst hv; rfl)), h1⟩
theorem own_form {w : World} {base : Nat} {e : TypeId} {size n : Nat} {v : Value} {xs : List Value} (h : w.ownsRow base e size v n xs) : ∃ A c, v = .slice A n c ∧ (A = none → n = 0 ∧ c = 0) ∧ ∀ a, A = some a → ∃ g, a = ⟨g, 0, none⟩ ∧ base ≤ g ∧ g < w.heap.size := by
 rcases h.2 with ⟨rfl, rfl⟩ | ⟨g, c, cur, hv, hg, hb, h1⟩
 ·exact ⟨none, 0, rfl, fun _ => ⟨rfl, rfl⟩, by simp⟩
 exact ⟨some ⟨g, 0, none⟩, c, hv, by simp, fun a ha => ⟨g, by injection ha with ha; exact ha.symm, hg, Blk.lt (t := e) (cs := cur) hb⟩⟩
theorem SlU.src {w : World} {A : Option Addr} {n c : Nat} {L : List Int} (h : SlU w A n L) (hc : A = none → n = 0 ∧ c = 0) : Src w 1 A n c (L.map (Value.int .u64)) :=
 ⟨by simp [h.len], by simp [Value.oneCell'], hc, fun a ha j u hu => by
  rw [List.getElem?_map] at hu
  cases hx : L[j]? with
  | none => rw [hx] at hu; cases hu
  | some x =>
   have hn : 0 < n := by have := (List.getElem?_eq_some_iff.1 hx).1; have := h.len; omega
   obtain ⟨b, off, e, _, hr⟩ := h.at_ hn
   rw [e] at ha; injection ha with ha; subst ha
   rw [hx] at hu; injection hu with hu; rw [← hu, add_at]; exact hr j x hx⟩
def eqL (a b : List Int) : Bool := decide (a = b)
theorem eqL_self (a : List Int) : eqL a a = true := by simp [eqL]
structure Cls (w : World) where
 val : World
 ok : Chg [] w val
instance Cls.some_ (w : World) : Nonempty (Cls w) := ⟨⟨w, Chg.refl [] w⟩⟩
theorem Cls.start (w : World) : ∃ n : Cls w, ({ w with drawn := w.drawn + 1 } : World) = n.val := ⟨⟨w.drew, (Chg.refl [] w).drew⟩, rfl⟩
theorem wp_region_cls {P : Program} {id : Nat} {Q : Exit → Act → World → Prop} {a : Act} {w : World} {l : List Oper} (hm : P.follows .mixedOrders = true) (hB : Region.lexB .any l.toArray = true)
  (h : wpQuiet P l.toArray (fun w' => ∃ n : Cls w, w' = n.val) (fun a' => ∀ w', (∃ n : Cls w, w' = n.val) → Q .normal a' w') l a) : (Code.region id l.toArray true).wp P Q a w :=
 wp_region_quiet (C := fun w' => ∃ n : Cls w, w' = n.val) hm hB (Cls.start w) (by simpa using h)
theorem Calls.cls {P : Program} {f : FuncId} {args : Array Value} {w : World} {n : Cls w} {v : Value}
  (h : Calls P f args n.val fun e w' => e = .returned v ∧ Chg [] n.val w') : Calls P f args n.val fun e w'' => e = .returned v ∧ ∃ m : Cls w, w'' = m.val :=
 h.mono fun _ w' ⟨he, hm⟩ => ⟨he, ⟨w', n.ok.trans hm (by simp)⟩, rfl⟩
theorem Cls.cell {w : World} (n : Cls w) {p : Addr} {v : Value} (h : w.cell? p = some v) : n.val.cell? p = some v := by
 rw [n.ok.cell (World.block_lt_of_cell? _ _ h) (by simp)]; exact h
theorem Cls.blk {w : World} (n : Cls w) {g : Nat} {t : TypeId} {cs : Array Value} (h : Blk w g t cs) : Blk n.val g t cs := n.ok.blk h (by simp)
theorem take_on {P : Program} {md : Region.Mode} {ops : Array Oper} {Q : Exit → Act → World → Prop} {S : World → Prop} (i : Nat) (d : Option Tmp) {oi : Oper} {v : Value} {fuel : Nat} {listed : Array Bool} {a : Act} {w : World} (hi : ops[i]? = some oi) (hd : oi.dst = d)
  (hs : Region.noSelect ops = true) (hf : Region.free md ops listed i = true) (hr : (Region.ready md ops listed).contains i = true)
  (hQ : ∀ c a w, Q (.panic c) (a.put oi.dst v) w → Q (.panic c) a w) (hw : Region.wanted oi (yielded ops a.tmps) = true) (hS : S w) (hy : ∀ w, S w → (execOp a.eval oi).run P w = .ok (.value v) w)
  (h : wpAnyH P md ops Q S fuel (listed.setIfInBounds i true) (a.put d v) w) : wpAnyH P md ops Q S (fuel + 1) listed a w :=
 wpAnyH_take hi hs hf hr hQ (.inl ⟨hw, hy⟩) hS (hd ▸ h)
theorem take_off {P : Program} {md : Region.Mode} {ops : Array Oper} {Q : Exit → Act → World → Prop} {S : World → Prop} (i : Nat) (d : Option Tmp) {oi : Oper} {fuel : Nat} {listed : Array Bool} {a : Act} {w : World} (hi : ops[i]? = some oi) (hd : oi.dst = d)
  (hs : Region.noSelect ops = true) (hf : Region.free md ops listed i = true) (hr : (Region.ready md ops listed).contains i = true)
  (hQ : ∀ c a w, Q (.panic c) (a.put oi.dst undef) w → Q (.panic c) a w) (hw : Region.wanted oi (yielded ops a.tmps) = false) (hS : S w)
  (h : wpAnyH P md ops Q S fuel (listed.setIfInBounds i true) (a.put d undef) w) : wpAnyH P md ops Q S (fuel + 1) listed a w :=
 wpAnyH_take hi hs hf hr hQ (.inr ⟨hw, rfl⟩) hS (hd ▸ h)
theorem blk3 {w : World} {g : Nat} {t : TypeId} {x0 x1 x2 : Value} (h : Blk w g t #[x0, x1, x2]) : w.cell? ⟨g, 0, none⟩ = some x0 ∧ w.cell? ⟨g, 1, none⟩ = some x1 ∧ w.cell? ⟨g, 2, none⟩ = some x2 :=
 ⟨h.cell 0, h.cell 1, h.cell 2⟩
theorem cell_ret {P : Program} {fn : Func} {p : Tmp} {ty : TypeId} (h : fn.results = #[.cell p ty]) {tmps : Array Value} {w : World} {g : Nat} {t : TypeId} {cs : Array Value} {d : TypeDesc} (hb : Blk w g t cs)
  (hp : tmps.getD p undef = .pointer (some ⟨g, 0, none⟩)) (hu : P.underlying ty = some d) (hd : (match d with | .struct _ | .array _ _ => true | _ => false) = true) (hi : (P.info? ty).map (·.size) = some cs.size) :
  (results fn tmps).run P w = .ok (.agg cs) w := results_cell_row h tmps w g t cs (0, 0) d hp hb hu hd hi
theorem part_bool (w : World) (t : TypeId) (ht : Tryz.prog.underlying t = some .bool) (xs : Array Value) (i : Nat) (b : Bool) (h : xs[i]? = some (.bool b)) : (part t xs i).run Tryz.prog w = .ok (.bool b) w := by
 simp [part, isAgg, run_underlying ht, h]
theorem part_int (w : World) (t : TypeId) (k : IntKind) (ht : Tryz.prog.underlying t = some (.int k)) (xs : Array Value) (i : Nat) (b : Int) (h : xs[i]? = some (.int k b)) : (part t xs i).run Tryz.prog w = .ok (.int k b) w := by
 simp [part, isAgg, run_underlying ht, h]
theorem fields_nil {d : Nat} {xs ys : Array Value} {w : World} : (Op.eqFields d xs ys []).run Tryz.prog w = .ok true w := by simp [Op.eqFields]
theorem fields_step {d : Nat} {xs ys : Array Value} {w : World} {f : Field} {fs : List Field} {x y : Value} {c r : Bool} (hn : f.name ≠ "_") (hx : (part f.type xs f.offset).run Tryz.prog w = .ok x w) (hy : (part f.type ys f.offset).run Tryz.prog w = .ok y w)
  (he : (Op.equalIn d f.type x y).run Tryz.prog w = .ok c w) (h : (Op.eqFields d xs ys fs).run Tryz.prog w = .ok r w) : (Op.eqFields d xs ys (f :: fs)).run Tryz.prog w = .ok (c && r) w := by
 simp only [Op.eqFields, if_pos hn, Sem.run_bind, hx, hy, he, Result.andThen_ok]
 cases c
 ·simp
 simpa using h
theorem fields_bool {d : Nat} {xs ys : Array Value} {w : World} {f : Field} {fs : List Field} {a b r : Bool} (hn : f.name ≠ "_") (ht : f.type = 4) (hx : (part 4 xs f.offset).run Tryz.prog w = .ok (.bool a) w) (hy : (part 4 ys f.offset).run Tryz.prog w = .ok (.bool b) w)
  (h : (Op.eqFields (d + 1) xs ys fs).run Tryz.prog w = .ok r w) : (Op.eqFields (d + 1) xs ys (f :: fs)).run Tryz.prog w = .ok (a == b && r) w :=
 fields_step hn (ht ▸ hx) (ht ▸ hy) (run_equalIn_bool' w d _ a b (ht ▸ Tryz.underlying4)) h
theorem fields_int {d : Nat} {xs ys : Array Value} {w : World} {f : Field} {fs : List Field} {a b : Int} {k : IntKind} (hu : Tryz.prog.underlying 3 = some (.int k)) (hn : f.name ≠ "_") (ht : f.type = 3) (hx : (part 3 xs f.offset).run Tryz.prog w = .ok (.int k a) w) (hy : (part 3 ys f.offset).run Tryz.prog w = .ok (.int k b) w)
  (h : (Op.eqFields (d + 1) xs ys fs).run Tryz.prog w = .ok true w) : (Op.eqFields (d + 1) xs ys (f :: fs)).run Tryz.prog w = .ok (a == b) w := by
 have := fields_step hn (ht ▸ hx) (ht ▸ hy) (run_equalIn_int w d _ k k a b (ht ▸ hu)) h
 simpa using this
theorem fields_last {d : Nat} {xs ys : Array Value} {w : World} {f : Field} {fs : List Field} {a b : Bool} (hn : f.name ≠ "_") (ht : f.type = 4) (hx : (part 4 xs f.offset).run Tryz.prog w = .ok (.bool a) w) (hy : (part 4 ys f.offset).run Tryz.prog w = .ok (.bool b) w)
  (h : (Op.eqFields (d + 1) xs ys fs).run Tryz.prog w = .ok true w) : (Op.eqFields (d + 1) xs ys (f :: fs)).run Tryz.prog w = .ok (a == b) w := by
 have := fields_bool hn ht hx hy h
 simpa using this
end Go.Proofs.YtmbgepafpcbakaaGreatDoor
namespace Go.Proofs.YtmbgepafpcbakaaGreatDoor
open Go.RowKit Go.Maps
def vals (k : IntKind) (L : List Int) : List Value := L.map (Value.int k)
theorem vals_len (k : IntKind) (L : List Int) : (vals k L).length = L.length := by simp [vals]
theorem vals_get (k : IntKind) (L : List Int) (i : Nat) : (vals k L)[i]? = L[i]?.map (Value.int k) := by simp [vals]
theorem vals_app (k : IntKind) (L M : List Int) : vals k (L ++ M) = vals k L ++ vals k M := by simp [vals]
theorem vals_one (k : IntKind) (x : Int) : vals k [x] = [.int k x] := rfl
def OwnI (w : World) (t : TypeId) (k : IntKind) (v : Value) (L : List Int) : Prop := w.ownsRow 0 t 1 v L.length (vals k L)
section
variable {w w' : World} {t : TypeId} {k : IntKind} {v : Value} {L : List Int}
theorem OwnI.none_ (w : World) (t : TypeId) (k : IntKind) : OwnI w t k (.slice none 0 0) [] := World.ownsRow_nil _ _ _ _
theorem OwnI.chg {S : List Nat} (h : OwnI w t k v L) (hc : Chg S w w') (hn : ∀ g ∈ v.ownBlock.toList, g ∉ S) : OwnI w' t k v L := own_chg h hc fun g hg => hn g (by simp [hg])
theorem OwnI.lt (h : OwnI w t k v L) : ∀ g ∈ v.ownBlock.toList, g < w.heap.size := fun g hg => (World.ownsRow.lt h g (by simpa using hg)).2
theorem OwnI.alloc (h : OwnI w t k v L) (o : Obj) : OwnI (w.alloc o) t k v L := World.ownsRow.alloc h o
theorem OwnI.form (h : OwnI w t k v L) : ∃ A c, v = .slice A L.length c := by
 obtain ⟨A, c, h1, _, _⟩ := own_form h
 exact ⟨A, c, h1⟩
theorem OwnI.pos_ (h : OwnI w t k v L) (h0 : 0 < L.length) : ∃ g c, v = .slice (some ⟨g, 0, none⟩) L.length c ∧ L.length ≤ c ∧ c ≤ 9223372036854775807 := by
 obtain ⟨g, c, cur, h1, _, _, h2, h3, _⟩ := own_blk h h0
 exact ⟨g, c, h1, h2, by simpa [maxLen] using h3⟩
theorem OwnI.cell {g n c : Nat} (h : OwnI w t k (.slice (some ⟨g, 0, none⟩) n c) L) (i : Nat) (hi : i < L.length) : w.cell? ⟨g, i, none⟩ = some (.int k (L.getD i 0)) := by
 have hn : n = L.length := by
  obtain ⟨A, c', e⟩ := h.form
  injection e with _ e _
 subst hn
 rw [World.ownsRow.cellAt h i (by omega), vals_get]
 simp [List.getD, List.getElem?_eq_getElem hi]
theorem OwnI.take {g n c : Nat} (h : OwnI w t k (.slice (some ⟨g, 0, none⟩) n c) L) (m : Nat) (hm : m ≤ L.length) : OwnI w t k (.slice (some ⟨g, 0, none⟩) m c) (L.take m) := by
 have hn : n = L.length := by
  obtain ⟨A, c', e⟩ := h.form
  injection e with _ e _
 subst hn
 have hl : (L.take m).length = m := by simp; omega
 unfold OwnI
 rw [hl]
 refine ⟨by rw [vals_len, hl, Nat.mul_one], ?_⟩
 rcases h.2 with ⟨h0, _⟩ | ⟨g', c', cur, hv, hg, hb, h1, h2, h3, h4⟩
 ·cases h0
 injection hv with e1 e2 e3
 injection e1 with e1
 subst e3
 refine .inr ⟨g', c, cur, by rw [e1], hg, hb, by omega, h2, h3, ?_⟩
 rw [Nat.mul_one] at h4 ⊢
 have := congrArg (List.take m) h4
 rw [List.take_take, Nat.min_eq_left hm] at this
 rw [this]; simp [vals, List.map_take]
theorem OwnI.blk (h : OwnI w t k v L) {g : Nat} (hg : g ∈ v.ownBlock.toList) : ∃ cur, Blk w g t cur := by
 rcases h.2 with ⟨h0, _⟩ | ⟨g', c', cur, hv, _, hb, _⟩
 ·subst h0; simp [Value.ownBlock] at hg
 subst hv; simp [Value.ownBlock] at hg; subst hg; exact ⟨cur, hb⟩
theorem OwnI.slice {A : Option Addr} {n c : Nat} (h : OwnI w t k (.slice A n c) L) : n = L.length := by
 obtain ⟨A', c', e⟩ := h.form
 injection e
end
theorem Chg.of_grown {w w' : World} {row : Option Nat} (h : w.grownBy w' row) : Chg row.toList w w' :=
 ⟨h.os, h.tape, h.output, h.size, fun k hk hn => h.block k hk (fun e => hn (by simp [← e]))⟩
def SetM (P : Program) (kt : TypeId) (w : World) (b n : Nat) (S : Int → Bool) : Prop :=
 ∃ D : DataW Unit, w.ownsMap P kt unitElem b n D ∧ (∀ x, Maps.has D (.int .i64 x) = S x) ∧ Maps.size D = n
def insS (S : Int → Bool) (f : Int) : Int → Bool := fun y => S y || y == f
def delS (S : Int → Bool) (f : Int) : Int → Bool := fun y => S y && y != f
section
variable {P : Program} {kt : TypeId} {w w' : World} {b n : Nat} {S : Int → Bool}
theorem SetM.lt (h : SetM P kt w b n S) : b < w.heap.size := by obtain ⟨D, h1, _⟩ := h; exact h1.lt
theorem SetM.made (w : World) (P : Program) (kt : TypeId) : SetM P kt (w.alloc (.map #[] 0)) w.heap.size 0 (fun _ => false) :=
 ⟨.map [], World.ownsMap_made _ _ _ _, fun _ => rfl, rfl⟩
theorem SetM.congr {S' : Int → Bool} (h : SetM P kt w b n S) (e : ∀ x, S x = S' x) : SetM P kt w b n S' := by
 obtain ⟨D, h1, h2, h3⟩ := h; exact ⟨D, h1, fun x => (h2 x).trans (e x), h3⟩
theorem ownsMap_block {H : Type} {R : Value → Option (DataW H × List MemPlace)} {D : DataW H} (h : w.ownsMap P kt R b n D) (e : w'.heap[b]? = w.heap[b]?) : w'.ownsMap P kt R b n D := by
 obtain ⟨es, clock, hb, r⟩ := h; exact ⟨es, clock, e.trans hb, r⟩
theorem SetM.chg {T : List Nat} (h : SetM P kt w b n S) (hc : Chg T w w') (hn : b ∉ T) : SetM P kt w' b n S := by
 obtain ⟨D, h1, h2, h3⟩ := h; exact ⟨D, ownsMap_block h1 (hc.block b h1.lt hn), h2, h3⟩
theorem SetM.blk_ne {g : Nat} {t : TypeId} {cs : Array Value} (h : SetM P kt w b n S) (hb : Blk w g t cs) : b ≠ g := by
 obtain ⟨D, ⟨es, clock, h1, _⟩, _⟩ := h
 intro e; subst e
 have := Eq.trans (Eq.symm h1) hb
 cases this
theorem lit_ne {x y : Int} (h : y ≠ x) : (Lit.int .i64 y) ≠ .int .i64 x := fun e => h (by injection e)
theorem SetM.put (K : Keyed P kt) (_h : SetM P kt w b n S) {D' : DataW Unit} {D : DataW Unit} (hD : w.ownsMap P kt unitElem b n D) (hS : ∀ x, Maps.has D (.int .i64 x) = S x) (hz : Maps.size D = n) {f : Int} (hf : S f = false)
  (e : D' = D.put (.int .i64 f) (.agg [])) (h' : w'.ownsMap P kt unitElem b (n + 1) D') : SetM P kt w' b (n + 1) (insS S f) := by
 subst e
 refine ⟨_, h', fun x => ?_, ?_⟩
 ·by_cases hx : x = f
  ·subst hx
   rw [Maps.has_put_same hD.isMap (by trivial)]; simp [insS]
  rw [Maps.has_put_other (lit_ne hx), hS]; simp [insS, hx]
 rw [Maps.size_put (hD.tidy K), hS, hf, hz]; rfl
theorem ownsMap_tight {D : DataW Unit} {m : Nat} (h : w.ownsMap P kt unitElem b m D) : w.ownsMap P kt unitElem b (Maps.size D) D := by
 obtain ⟨es, clock, hb, F, hs, rfl⟩ := h
 exact ⟨es, clock, hb, F, by simp [Maps.size, length_sorted], rfl⟩
variable {ops : Array Oper} {rest : List Oper} {o : Oper} {a : Act} {Q : Exit → Act → World → Prop}
theorem wpList_lookup_set (hg : o.guard = none) (m x : Operand) (t : TypeId) (hop : o.op = Op.lookup t m x true) (e : TypeId) (K : Keyed P kt) (ht : P.underlying t = some (.map kt e)) (hkt : P.underlying kt = some (.int .i64))
  (hz : (zeroValue e).run P w = .ok (.agg #[]) w) (b n : Nat) (S : Int → Bool) (hm : a.eval m = .map (some b)) (hs : SetM P kt w b n S) (f : Int) (hx : a.eval x = .int .i64 f) (hf : (Lit.int .i64 f).wf = true)
  (hK : wpList P ops Q rest (a.put o.dst (.tuple #[.agg #[], .bool (S f)])) w) : wpList P ops Q (o :: rest) a w := by
 obtain ⟨D, hown, hS, hsz⟩ := hs
 refine wpList_lookup_own_unit w hg m x t hop kt e K ht hz b n D hm hown _ _ hx (keyOf_int_mk hkt hf) ?_
 rw [hS]; exact hK
theorem wpList_store_set (hg : o.guard = none) (m x v : Operand) (t : TypeId) (hop : o.op = Op.mapUpdate t m x v) (e : TypeId) (K : Keyed P kt) (ht : P.underlying t = some (.map kt e)) (hkt : P.underlying kt = some (.int .i64))
  (b n : Nat) (S : Int → Bool) (hm : a.eval m = .map (some b)) (hs : SetM P kt w b n S) (hn : n < maxLen) (f : Int) (hx : a.eval x = .int .i64 f) (hv : a.eval v = .agg #[]) (hf : (Lit.int .i64 f).wf = true) (hSf : S f = false)
  (hK : ∀ w', SetM P kt w' b (n + 1) (insS S f) → Chg [b] w w' → wpList P ops Q rest (a.put o.dst undef) w') : wpList P ops Q (o :: rest) a w := by
 obtain ⟨D, hown, hS, hsz⟩ := hs
 refine wpList_mapUpdate_in w hg m x v t hop kt e K ht unitElem b n D hm hown hn _ _ _ hx hv (keyOf_int_mk hkt hf) _ _ unitElem_mk fun w' h1 h2 => hK w' ?_ ?_
 ·exact SetM.put K ⟨D, hown, hS, hsz⟩ hown hS hsz hSf rfl h1
 exact Chg.of_grown h2.grown
theorem wpList_delete_set (hg : o.guard = none) (m x : Operand) (t : TypeId) (hop : o.op = Op.call { callee := Callee.builtin Builtin.delete, args := #[m, x], argTypes := #[t, kt] }) (e : TypeId) (K : Keyed P kt) (ht : P.underlying t = some (.map kt e)) (hkt : P.underlying kt = some (.int .i64))
  (b n : Nat) (S : Int → Bool) (hm : a.eval m = .map (some b)) (hs : SetM P kt w b n S) (f : Int) (hx : a.eval x = .int .i64 f) (hf : (Lit.int .i64 f).wf = true) (hSf : S f = true)
  (hK : ∀ w', SetM P kt w' b (n - 1) (delS S f) → 0 < n → Chg [b] w w' → wpList P ops Q rest (a.put o.dst (.tuple #[])) w') : wpList P ops Q (o :: rest) a w := by
 obtain ⟨D, hown, hS, hsz⟩ := hs
 have hd := Maps.size_del (k := .int .i64 f) (hown.tidy K)
 rw [hS, hSf, hsz] at hd
 simp only [if_true] at hd
 refine wpList_delete_own w hg m x t kt hop e K ht unitElem b n D hm hown _ _ hx (keyOf_int_mk hkt hf) fun w' h1 h2 => hK w' ?_ (by omega) ?_
 ·refine ⟨_, (show n - 1 = Maps.size (D.del (.int .i64 f)) by omega) ▸ ownsMap_tight h1, fun x => ?_, by omega⟩
  by_cases hx : x = f
  ·subst hx
   rw [Maps.has_del_same]; simp [delS]
  rw [Maps.has_del_other (lit_ne hx), hS]; simp [delS, hx]
 exact Chg.of_grown h2.grown
end
structure SlK (k : IntKind) (w : World) (A : Option Addr) (n : Nat) (xs : List Int) : Prop where
 len : xs.length = n
 le : n ≤ 9223372036854775807
 wf : ∀ x ∈ xs, k.min ≤ x ∧ x ≤ k.max
 at_ : 0 < n → ∃ b off, A = some ⟨b, off, none⟩ ∧ b < w.heap.size ∧ ∀ j u, xs[j]? = some u → w.cell? ⟨b, off + j, none⟩ = some (.int k u)
theorem SlK.chg {k : IntKind} {w w' : World} {A : Option Addr} {n : Nat} {xs : List Int} (h : SlK k w A n xs) (hc : Chg [] w w') : SlK k w' A n xs :=
 ⟨h.len, h.le, h.wf, fun h0 => by
  obtain ⟨b, off, rfl, hb, hr⟩ := h.at_ h0
  exact ⟨b, off, rfl, Nat.lt_of_lt_of_le hb hc.size, fun j u hu => (hc.cell (p := ⟨b, off + j, none⟩) hb (by simp)).trans (hr j u hu)⟩⟩
theorem SlK.get {k : IntKind} {w : World} {A : Option Addr} {n : Nat} {xs : List Int} (h : SlK k w A n xs) {i : Nat} (hi : i < n) :
  ∃ b off, A = some ⟨b, off, none⟩ ∧ b < w.heap.size ∧ w.cell? ⟨b, off + i, none⟩ = some (.int k (xs.getD i 0)) ∧ k.min ≤ xs.getD i 0 ∧ xs.getD i 0 ≤ k.max := by
 obtain ⟨b, off, e, hb, hr⟩ := h.at_ (by omega)
 have hl := h.len
 have hx : xs[i]? = some (xs.getD i 0) := by simp [List.getD_eq_getElem?_getD, List.getElem?_eq_getElem (show i < xs.length by omega)]
 exact ⟨b, off, e, hb, hr i _ hx, h.wf _ (List.mem_of_getElem? hx)⟩
def Grew (w : World) (S S' : List Nat) : Prop := ∀ i ∈ S', i ∈ S ∨ w.heap.size ≤ i
theorem Grew.refl (w : World) (S : List Nat) : Grew w S S := fun _ h => .inl h
def setV (l : List Value) (o : Nat) (xs : List Value) : List Value := l.take o ++ xs ++ l.drop (o + xs.length)
theorem setV_cons {l : List Value} {o : Nat} {x : Value} {xs : List Value} (h : o + (x :: xs).length ≤ l.length) : setV (l.set o x) (o + 1) xs = setV l o (x :: xs) := by
 simp only [List.length_cons] at h
 unfold setV
 rw [List.drop_set_of_lt (by omega), List.length_cons, show o + 1 + xs.length = o + (xs.length + 1) by omega]
 congr 1
 rw [List.take_set, List.take_succ_eq_append_getElem (by omega), List.set_append_right o x (by simp; omega)]
 simp [show o - min o l.length = 0 by omega]
theorem setCells_V {g : Nat} {t : TypeId} : ∀ (xs : List Value) (o : Nat) (l : List Value) (w : World), Blk w g t l.toArray → o + xs.length ≤ l.length → Blk (w.setCells g o xs) g t (setV l o xs).toArray
 | [], o, l, w, h, _ => by simpa [setV, World.setCells] using h
 | x :: r, o, l, w, h, hl => by
  rw [World.setCells, ← setV_cons hl]
  refine setCells_V r _ _ _ ?_ (by simp at hl ⊢; omega)
  have := h.set_ o x
  simpa using this
theorem setV_mid {a b c xs : List Value} {o : Nat} (ha : a.length = o) (hb : b.length = xs.length) : setV ((a ++ b) ++ c) o xs = a ++ (xs ++ c) := by
 subst ha
 unfold setV
 rw [← hb, ← List.length_append, List.drop_left, List.append_assoc a b c, List.take_left, List.append_assoc]
theorem lawI : Keyed Tryz.prog 3 := int_keyed Tryz.underlying3
theorem zeroI (w : World) : (zeroValue 3).run Tryz.prog w = .ok (.int .i64 0) w := by kernel_rfl
theorem int_info : ((Tryz.prog.info? 3).map (fun i => (i.zero, i.size, i.bytes))) = some (some (.int .i64 0), 1, 8) := by kernel_rfl
theorem cell_src (f : Int) (w2 : World) : ∀ a, some (⟨w2.heap.size, 0, none⟩ : Addr) = some a → ∀ j u, [Value.int .i64 f][j]? = some u → (w2.alloc (.cells #[.int .i64 f] 3)).cell? (a.add j) = some u := fun a ha j u hu => by
 injection ha with ha; subst ha
 rw [add_at]
 rw [(Blk.new w2 3 #[.int .i64 f]).cell]
 simpa using hu
def IntM (P : Program) (kt et : TypeId) (w : World) (b n : Nat) (F : Int → Option Int) : Prop :=
 ∃ D : DataW Unit, w.ownsMap P kt (plainElem P et) b n D ∧ (∀ x, Maps.has D (.int .i64 x) = (F x).isSome) ∧ ∀ x, D.atKey (.int .i64 x) (.lit (.int .i64 0)) = .lit (.int .i64 ((F x).getD 0))
def putM (F : Int → Option Int) (f v : Int) : Int → Option Int := fun y => if y = f then some v else F y
section
variable {P : Program} {kt et : TypeId} {w w' : World} {b n : Nat} {F : Int → Option Int}
theorem IntM.lt (h : IntM P kt et w b n F) : b < w.heap.size := by obtain ⟨D, h1, _⟩ := h; exact h1.lt
theorem IntM.made (w : World) (P : Program) (kt et : TypeId) : IntM P kt et (w.alloc (.map #[] 0)) w.heap.size 0 (fun _ => none) :=
 ⟨.map [], World.ownsMap_made _ _ _ _, fun _ => rfl, fun _ => rfl⟩
theorem IntM.congr {F' : Int → Option Int} (h : IntM P kt et w b n F) (e : ∀ x, F x = F' x) : IntM P kt et w b n F' := by
 obtain ⟨D, h1, h2, h3⟩ := h; exact ⟨D, h1, fun x => by rw [h2, e], fun x => by rw [h3, e]⟩
theorem IntM.chg {T : List Nat} (h : IntM P kt et w b n F) (hc : Chg T w w') (hn : b ∉ T) : IntM P kt et w' b n F := by
 obtain ⟨D, h1, h2, h3⟩ := h; exact ⟨D, ownsMap_block h1 (hc.block b h1.lt hn), h2, h3⟩
theorem IntM.blk_ne {g : Nat} {t : TypeId} {cs : Array Value} (h : IntM P kt et w b n F) (hb : Blk w g t cs) : b ≠ g := by
 obtain ⟨D, ⟨es, clock, h1, _⟩, _⟩ := h
 intro e; subst e
 have := Eq.trans (Eq.symm h1) hb
 cases this
variable {ops : Array Oper} {rest : List Oper} {o : Oper} {a : Act} {Q : Exit → Act → World → Prop}
theorem wpList_lookup_intM (hg : o.guard = none) (m x : Operand) (t : TypeId) (hop : o.op = Op.lookup t m x true) (K : Keyed P kt) (ht : P.underlying t = some (.map kt et)) (hkt : P.underlying kt = some (.int .i64)) (het : P.underlying et = some (.int .i64))
  (hz : (zeroValue et).run P w = .ok (.int .i64 0) w) (b n : Nat) (F : Int → Option Int) (hm : a.eval m = .map (some b)) (hs : IntM P kt et w b n F) (f : Int) (hx : a.eval x = .int .i64 f) (hf : (Lit.int .i64 f).wf = true)
  (hK : wpList P ops Q rest (a.put o.dst (.tuple #[.int .i64 ((F f).getD 0), .bool (F f).isSome])) w) : wpList P ops Q (o :: rest) a w := by
 obtain ⟨D, hown, hS, hA⟩ := hs
 refine wpList_lookup_own_ok_int w hg m x t hop kt et .i64 K ht het hz b n D hm hown _ _ hx (keyOf_int_mk hkt hf) fun c hat _ => ?_
 have e : (F f).getD 0 = c := by
  have := (hA f).symm.trans hat
  injection this with this; injection this with this
 rw [hS, ← e]; exact hK
theorem wpList_lookup_intM_none (hg : o.guard = none) (m x : Operand) (t : TypeId) (hop : o.op = Op.lookup t m x true) (K : Keyed P kt) (ht : P.underlying t = some (.map kt et)) (hkt : P.underlying kt = some (.int .i64)) (het : P.underlying et = some (.int .i64))
  (hz : (zeroValue et).run P w = .ok (.int .i64 0) w) (b n : Nat) (F : Int → Option Int) (hm : a.eval m = .map (some b)) (hs : IntM P kt et w b n F) (f : Int) (hx : a.eval x = .int .i64 f) (hf : (Lit.int .i64 f).wf = true) (hF : F f = none)
  (hK : wpList P ops Q rest (a.put o.dst (.tuple #[.int .i64 0, .bool false])) w) : wpList P ops Q (o :: rest) a w := by
 refine wpList_lookup_intM hg m x t hop K ht hkt het hz b n F hm hs f hx hf ?_
 rw [hF]; exact hK
theorem wpList_lookup_intM_some (hg : o.guard = none) (m x : Operand) (t : TypeId) (hop : o.op = Op.lookup t m x true) (K : Keyed P kt) (ht : P.underlying t = some (.map kt et)) (hkt : P.underlying kt = some (.int .i64)) (het : P.underlying et = some (.int .i64))
  (hz : (zeroValue et).run P w = .ok (.int .i64 0) w) (b n : Nat) (F : Int → Option Int) (hm : a.eval m = .map (some b)) (hs : IntM P kt et w b n F) (f : Int) (hx : a.eval x = .int .i64 f) (hf : (Lit.int .i64 f).wf = true) (q : Int) (hF : F f = some q)
  (hK : wpList P ops Q rest (a.put o.dst (.tuple #[.int .i64 q, .bool true])) w) : wpList P ops Q (o :: rest) a w := by
 refine wpList_lookup_intM hg m x t hop K ht hkt het hz b n F hm hs f hx hf ?_
 rw [hF]; exact hK
theorem wpList_store_intM (hg : o.guard = none) (m x v : Operand) (t : TypeId) (hop : o.op = Op.mapUpdate t m x v) (K : Keyed P kt) (ht : P.underlying t = some (.map kt et)) (hkt : P.underlying kt = some (.int .i64)) (het : P.underlying et = some (.int .i64))
  (b n : Nat) (F : Int → Option Int) (hm : a.eval m = .map (some b)) (hs : IntM P kt et w b n F) (hn : n < maxLen) (f y : Int) (hx : a.eval x = .int .i64 f) (hv : a.eval v = .int .i64 y) (hf : (Lit.int .i64 f).wf = true) (hy : (Lit.int .i64 y).wf = true)
  (hK : ∀ w', IntM P kt et w' b (n + 1) (putM F f y) → Chg [b] w w' → wpList P ops Q rest (a.put o.dst undef) w') : wpList P ops Q (o :: rest) a w := by
 obtain ⟨D, hown, hS, hA⟩ := hs
 refine wpList_mapUpdate_in w hg m x v t hop kt et K ht (plainElem P et) b n D hm hown hn _ _ _ hx hv (keyOf_int_mk hkt hf) _ _ (plainElem_int het hy) fun w' h1 h2 => hK w' ?_ ?_
 ·refine ⟨_, h1, fun z => ?_, fun z => ?_⟩
  ·by_cases hz : z = f
   ·subst hz
    rw [Maps.has_put_same hown.isMap (by trivial)]; simp [putM]
   rw [Maps.has_put_other (lit_ne hz), hS]; simp [putM, hz]
  by_cases hz : z = f
  ·subst hz
   rw [Maps.atKey_put_same hown.isMap (by trivial)]; simp [putM]
  rw [Maps.atKey_put_other (lit_ne hz), hA]; simp [putM, hz]
 exact Chg.of_grown h2.grown
end
def locO (L : List Int) (h : Int) : Option Int := if L.contains h then some (L.idxOf h : Int) else none
theorem locO_some (L : List Int) (h : Int) : (locO L h).isSome = L.contains h := by unfold locO; cases L.contains h <;> rfl
theorem locO_snoc (L : List Int) (f h : Int) (hf : L.contains f = false) : locO (L ++ [f]) h = putM (locO L) f L.length h := by
 have hf' : f ∉ L := fun hm => by rw [List.contains_iff_mem.2 hm] at hf; cases hf
 unfold locO putM
 by_cases e : h = f
 ·subst e
  simp [List.idxOf_append, hf']
 by_cases hm : h ∈ L
 ·simp [e, hm, List.idxOf_append]
 simp [e, hm]
theorem OwnI.slk {w : World} {t : TypeId} {k : IntKind} {A : Option Addr} {n c : Nat} {L : List Int} (h : OwnI w t k (.slice A n c) L) (hL : ∀ x ∈ L, k.min ≤ x ∧ x ≤ k.max) (hl : L.length ≤ 9223372036854775807) : SlK k w A n L := by
 have hn := h.slice
 subst hn
 refine ⟨rfl, hl, hL, fun h0 => ?_⟩
 obtain ⟨g, c', e, _⟩ := h.pos_ h0
 injection e with e1 e2 e3
 subst e1
 refine ⟨g, 0, rfl, h.lt g (by simp [Value.ownBlock]), fun j u hu => ?_⟩
 have hj := (List.getElem?_eq_some_iff.1 hu).1
 rw [Nat.zero_add, h.cell j hj]
 simp [List.getD_eq_getElem?_getD, hu]
theorem SlK.src {k : IntKind} {w : World} {A : Option Addr} {n c : Nat} {L : List Int} (h : SlK k w A n L) (hc : A = none → n = 0 ∧ c = 0) : Src w 1 A n c (vals k L) :=
 ⟨by rw [vals_len, h.len, Nat.mul_one], by simp [vals, Value.oneCell'], hc, fun a ha j u hu => by
  rw [vals_get] at hu
  cases hx : L[j]? with
  | none => rw [hx] at hu; cases hu
  | some x =>
   have hn : 0 < n := by have := (List.getElem?_eq_some_iff.1 hx).1; have := h.len; omega
   obtain ⟨b, off, e, _, hr⟩ := h.at_ hn
   rw [e] at ha; injection ha with ha; subst ha
   rw [hx] at hu; injection hu with hu; rw [← hu, add_at]; exact hr j x hx⟩
theorem SlK.drew {k : IntKind} {w : World} {A : Option Addr} {n : Nat} {L : List Int} (h : SlK k w A n L) : SlK k w.drew A n L := h.chg (Chg.refl _ _).drew
end Go.Proofs.YtmbgepafpcbakaaGreatDoor
namespace Go.Proofs.YtmbgepafpcbakaaGreatDoor
open Go.RowKit
theorem round_of_wp {l n : Nat} {P : Program} {o : Oper} {a : Act} {w : World} {K : Act → World → Prop} {Q : Exit → Act → World → Prop} (hd : ∀ c, o.op ≠ .defer c) (h : o.wp P a w K Q) : o.wpIn (Fence.wide.inRound l) n P a w K Q := by
 refine ⟨fun _ _ => trivial, ?_⟩
 unfold Oper.wp at h
 show o.uponIn (Fence.wide.inRound l) n P a K Q ((o.semAt (some l) a.eval).run P w)
 rw [Oper.semAt_some l a.eval o hd]
 generalize (execOp a.eval o).run P w = r at *
 cases r with
 | ok x w' =>
  cases x with
  | value v => exact h
  | skip => exact h
  | defer d => exact h
  | enter f args => exact ⟨(fun hh => by cases hh), CallsIn.inRound l (callsIn_wide.2 h)⟩
  | row r args => exact ⟨(fun hh => by cases hh), fun c cs _ => let ⟨v, w2, r2, s⟩ := h c cs; ⟨v, w2, r2, stepsIn_wide.2 s⟩⟩
  | _ => exact h.elim
 | halt x w' => cases x <;> exact h
def noDefer (ops : Array Oper) : Bool := ops.toList.all fun o => match o.op with | .defer _ => false | _ => true
theorem noDefer_at {ops : Array Oper} (h : noDefer ops = true) {i : Nat} {o : Oper} (ho : ops[i]? = some o) (c : Call) : o.op ≠ .defer c := by
 intro e
 have := List.all_eq_true.1 h o (Array.mem_toList_iff.2 (Array.mem_of_getElem? ho))
 rw [e] at this; cases this
theorem anyIn_of_any {l n : Nat} {P : Program} {md : Region.Mode} {ops : Array Oper} {Q : Exit → Act → World → Prop} (hd : noDefer ops = true) (hL : ¬ LetsOut Q) : ∀ (fuel : Nat) (listed : Array Bool) (a : Act) (w : World), wpAny P md ops Q fuel listed a w → wpAnyIn (Fence.wide.inRound l) n P md ops Q fuel listed a w
 | 0, _, _, _, h => h
 | fuel + 1, listed, a, w, h => by
  refine ⟨h.1, fun i hi => ?_⟩
  have h2 := h.2 i hi
  unfold wpOp at h2
  unfold wpOpIn
  cases ho : ops[i]? with
  | none => rw [ho] at h2; exact anyIn_of_any hd hL fuel _ a w h2
  | some o =>
   rw [ho] at h2
   simp only at h2 ⊢
   by_cases hw : Region.wanted o (yielded ops a.tmps) = true
   ·rw [if_pos hw] at h2
    rw [if_pos hw]
    rcases h2 with h2 | ⟨_, h2⟩
    ·exact round_of_wp (noDefer_at hd ho) (Oper.wp_mono (fun a w h => anyIn_of_any hd hL fuel _ a w h) h2)
    exact absurd h2 hL
   rw [if_neg hw] at h2
   rw [if_neg hw]
   exact ⟨fun _ _ => trivial, anyIn_of_any hd hL fuel _ _ w h2⟩
theorem wpIn_region_round {l n id : Nat} {P : Program} {ops : Array Oper} {Q : Exit → Act → World → Prop} {a : Act} {w : World} {S : World → Prop} (hm : P.follows .mixedOrders = true) (hd : noDefer ops = true) (hL : ¬ LetsOut Q) (hS : S w.drew)
  (h : S w.drew → wpAnyH P .any ops Q S ops.size (Array.replicate ops.size false) a w.drew) : (Code.region id ops true).wpIn (Fence.wide.inRound l) n P Q a w :=
 wpIn_region_any hm (anyIn_of_any hd hL _ _ _ _ (wpAny_of_held _ _ _ _ (h hS)))
def Only (Q : Exit → Act → World → Prop) : Exit → Act → World → Prop
 | .normal, a, w => Q .normal a w
 | _, _, _ => False
theorem Only.normal {Q : Exit → Act → World → Prop} {a : Act} {w : World} (h : Q .normal a w) : Only Q .normal a w := h
theorem wpIn_region_only {l n id : Nat} {P : Program} {ops : Array Oper} {Q : Exit → Act → World → Prop} {a : Act} {w : World} {S : World → Prop} (hm : P.follows .mixedOrders = true) (hd : noDefer ops = true) (hS : S w.drew)
  (h : S w.drew → wpAnyH P .any ops (Only Q) S ops.size (Array.replicate ops.size false) a w.drew) : (Code.region id ops true).wpIn (Fence.wide.inRound l) n P Q a w :=
 wpIn_mono (wpIn_region_round (Q := Only Q) hm hd (by rintro ⟨_, _, h⟩; exact h) hS h) (fun e a w h => by cases e <;> first | exact h | exact h.elim)
theorem Cells.grown {w w' : World} (h : Chg [] w w') : w.grownBy w' none := ⟨h.os, h.tape, h.output, h.size, fun k hk _ => h.block k hk (by simp)⟩
theorem own_weak {w : World} {b b' : Nat} {t : TypeId} {s n : Nat} {v : Value} {xs : List Value} (h : w.ownsRow b t s v n xs) (hb : b' ≤ b) : w.ownsRow b' t s v n xs := by
 refine ⟨h.1, ?_⟩
 rcases h.2 with h0 | ⟨g, c, cur, hv, hg, h1⟩
 ·exact .inl h0
 exact .inr ⟨g, c, cur, hv, Nat.le_trans hb hg, h1⟩
theorem own_low {w : World} {b : Nat} {t : TypeId} {s n : Nat} {v : Value} {xs : List Value} (h : w.ownsRow b t s v n xs) : ∀ g ∈ v.ownBlock.toList, b ≤ g := by
 intro g hg
 rcases h.2 with ⟨rfl, _⟩ | ⟨g', c, cur, rfl, hb, h1⟩
 ·simp [Value.ownBlock] at hg
 simp [Value.ownBlock] at hg; subst hg; exact hb
theorem own_cells {w : World} {b : Nat} {t : TypeId} {s n : Nat} {v : Value} {xs : List Value} (h : w.ownsRow b t s v n xs) : ∀ g ∈ v.ownBlock.toList, ∃ cs, Blk w g t cs := by
 intro g hg
 rcases h.2 with ⟨rfl, _⟩ | ⟨g', c, cur, rfl, hb, h1, _⟩
 ·simp [Value.ownBlock] at hg
 simp [Value.ownBlock] at hg; subst hg; exact ⟨cur, h1⟩
theorem blk_kept {W W' : World} {row : Option Nat} {g : Nat} {t : TypeId} {cs : Array Value} (h : Blk W g t cs) (hg : W.grownBy W' row) (hr : ∀ r, row = some r → ∃ o : Obj, W.heap[r]? = some o ∧ o.isCells = false) : Blk W' g t cs :=
 (hg.block g h.lt fun e => by
  obtain ⟨o, ho, hc⟩ := hr g e.symm
  rw [show W.heap[g]? = _ from h] at ho
  injection ho with ho; subst ho; cases hc).trans h
theorem own_kept {W W' : World} {row : Option Nat} {b : Nat} {t : TypeId} {s n : Nat} {v : Value} {xs : List Value} (h : W.ownsRow b t s v n xs) (hg : W.grownBy W' row) (hr : ∀ r, row = some r → ∃ o : Obj, W.heap[r]? = some o ∧ o.isCells = false) : W'.ownsRow b t s v n xs := by
 refine ⟨h.1, ?_⟩
 rcases h.2 with h0 | ⟨g, c, cur, hv, hb, h1, h2⟩
 ·exact .inl h0
 exact .inr ⟨g, c, cur, hv, hb, blk_kept (t := t) h1 hg hr, h2⟩
theorem chg_kept {w W W' : World} {row : Option Nat} {B : Nat} (h : Chg [] w W) (hB : w.heap.size ≤ B) (hg : W.grownBy W' row) (hr : ∀ r, row = some r → B ≤ r ∧ ∃ o : Obj, W.heap[r]? = some o ∧ o.isCells = false) : Chg [] w W' :=
 h.trans (Chg.of_grown hg) (fun i hi hm => by
  have := (hr i (by simpa using hm)).1
  omega)
section
variable {P : Program} {md : Region.Mode} {ops : Array Oper} {Q : Exit → Act → World → Prop} {S : World → Prop} {fuel : Nat} {listed : Array Bool} {a : Act} {w : World}
theorem tk (i d : Nat) (v : Value) {oi : Oper} (hy : ∀ w, S w → (execOp a.eval oi).run P w = .ok (.value v) w) (h : wpAnyH P md ops Q S fuel (listed.setIfInBounds i true) (a.put (some d) v) w) (hi : ops[i]? = some oi := by exact rfl) (hd : oi.dst = some d := by exact rfl)
    (hs : Region.noSelect ops = true := by kernel_rfl) (hf : Region.free md ops listed i = true := by kernel_rfl) (hr : (Region.ready md ops listed).contains i = true := by kernel_rfl)
    (hQ : ∀ c a w, Q (.panic c) (a.put oi.dst v) w → Q (.panic c) a w := by exact fun _ _ _ h => h) (hw : Region.wanted oi (yielded ops a.tmps) = true := by rfl) (hS : S w := by assumption) : wpAnyH P md ops Q S (fuel + 1) listed a w :=
  take_on i (some d) hi hd hs hf hr hQ hw hS hy h
theorem tq (i d : Nat) (v : Value) {oi : Oper} (h : wpAnyH P md ops Q S fuel (listed.setIfInBounds i true) (a.put (some d) v) w) (hi : ops[i]? = some oi := by exact rfl) (hd : oi.dst = some d := by exact rfl)
    (hy : ∀ w, S w → (execOp a.eval oi).run P w = .ok (.value v) w := by intro w hSw; (try dsimp only at hSw); go_simp; (try with_reducible rfl))
    (hs : Region.noSelect ops = true := by kernel_rfl) (hf : Region.free md ops listed i = true := by kernel_rfl) (hr : (Region.ready md ops listed).contains i = true := by kernel_rfl)
    (hQ : ∀ c a w, Q (.panic c) (a.put oi.dst v) w → Q (.panic c) a w := by exact fun _ _ _ h => h) (hw : Region.wanted oi (yielded ops a.tmps) = true := by rfl) (hS : S w := by assumption) : wpAnyH P md ops Q S (fuel + 1) listed a w :=
  take_on i (some d) hi hd hs hf hr hQ hw hS hy h
theorem tko (i d : Nat) {oi : Oper} (h : wpAnyH P md ops Q S fuel (listed.setIfInBounds i true) (a.put (some d) undef) w) (hi : ops[i]? = some oi := by exact rfl) (hd : oi.dst = some d := by exact rfl)
    (hs : Region.noSelect ops = true := by kernel_rfl) (hf : Region.free md ops listed i = true := by kernel_rfl) (hr : (Region.ready md ops listed).contains i = true := by kernel_rfl)
    (hQ : ∀ c a w, Q (.panic c) (a.put oi.dst undef) w → Q (.panic c) a w := by exact fun _ _ _ h => h) (hw : Region.wanted oi (yielded ops a.tmps) = false := by rfl) (hS : S w := by assumption) : wpAnyH P md ops Q S (fuel + 1) listed a w :=
  take_off i (some d) hi hd hs hf hr hQ hw hS h
theorem rdy (i : Nat) {o : Oper} (h : ∀ K' : Act → World → Prop, Shut (∀ a w, S w → (S w → wpAnyH P md ops Q S fuel (listed.setIfInBounds i true) a w) → K' a w) → if Region.wanted o (yielded ops a.tmps) = true then Oper.wp P o a w K' Q else K' (a.put o.dst undef) w)
    (hi : ops[i]? = some o := by exact rfl) (hr : Region.ready md ops listed = [i] := by kernel_rfl) : wpAnyH P md ops Q S (fuel + 1) listed a w :=
  wpAnyH_ready hr (by simp) (AllReadyH.cons hi h AllReadyH.nil)
end
end Go.Proofs.YtmbgepafpcbakaaGreatDoor
