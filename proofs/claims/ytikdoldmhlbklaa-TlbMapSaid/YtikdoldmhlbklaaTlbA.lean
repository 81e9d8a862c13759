/-
  Hits as values; rows of hits of one's own; slices of hits that came in. No function of the program is named here but the type of a hit.
-/
import Derived.Test.YtikdoldmhlbklaaLib2
import Derived.Test.YtikdoldmhlbklaaCls
import Derived.Test.YtikdoldmhlbklaaFields
import Derived.Lib.SliceRun
import Derived.Deep.RegionLaw
import Derived.Deep.LoopGhost
import Derived.Test.YtikdoldmhlbklaaProg
namespace Go.Proofs.Ytikdoldmhlbklaa
open Go.RowKit

/-- a hit -/
structure Ht where
  a : Int
  p : Int
  f : Int
  w : Bool
  u : Bool
  x : Bool
  d : Bool
/-- its seven cells -/
def Ht.cl (h : Ht) : List Value := [.int .i64 h.a, .int .i64 h.p, .int .i64 h.f, .bool h.w, .bool h.u, .bool h.x, .bool h.d]
def Ht.v (h : Ht) : Value := .agg #[.int .i64 h.a, .int .i64 h.p, .int .i64 h.f, .bool h.w, .bool h.u, .bool h.x, .bool h.d]
def Ht.zero : Ht := ⟨0, 0, 0, false, false, false, false⟩
theorem Ht.ext_ {a b : Ht} (h1 : a.a = b.a) (h2 : a.p = b.p) (h3 : a.f = b.f) (h4 : a.w = b.w) (h5 : a.u = b.u) (h6 : a.x = b.x) (h7 : a.d = b.d) : a = b := by
  cases a; cases b; simp at h1 h2 h3 h4 h5 h6 h7; simp [h1, h2, h3, h4, h5, h6, h7]
def Ht.eqb (a b : Ht) : Bool := a.a == b.a && (a.p == b.p && (a.f == b.f && ((a.w == b.w && (a.u == b.u && a.x == b.x)) && a.d == b.d)))
theorem Ht.eqb_iff (a b : Ht) : a.eqb b = true ↔ a = b := by
  simp only [Ht.eqb, Bool.and_eq_true, beq_iff_eq]
  constructor
  · rintro ⟨h1, h2, h3, ⟨h4, h5, h6⟩, h7⟩; exact Ht.ext_ h1 h2 h3 h4 h5 h6 h7
  · rintro rfl; simp
theorem Ht.eqb_self (a : Ht) : a.eqb a = true := (Ht.eqb_iff a a).2 rfl
theorem Ht.eqb_false {a b : Ht} (h : a ≠ b) : a.eqb b = false := by rw [← Bool.not_eq_true, Ht.eqb_iff]; exact h
instance Ht.dec : DecidableEq Ht := fun a b => decidable_of_iff _ (Ht.eqb_iff a b)
instance Ht.inh : Inhabited Ht := ⟨Ht.zero⟩
/-- is it of this pair? -/
def Ht.isK (h : Ht) (a p : Int) : Bool := h.a == a && h.p == p

set_option maxRecDepth 100000 in
theorem run_inH (a b : Ht) (w : World) : (Op.equalIn 10000 31 a.v b.v).run Try.prog w = .ok (a.eqb b) w := by
  unfold Ht.v
  rw [run_equalIn_struct w 9999 _ _ _ (by kernel_rfl) (by kernel_rfl)]
  simp only [Program.fieldsOf, Try.underlying31]
  have hR : (Op.equalIn 9999 29 (.agg #[.bool a.w, .bool a.u, .bool a.x]) (.agg #[.bool b.w, .bool b.u, .bool b.x])).run Try.prog w = .ok (a.w == b.w && (a.u == b.u && a.x == b.x)) w := by
    rw [run_equalIn_struct w 9998 _ _ _ (by kernel_rfl) (by kernel_rfl)]
    simp only [Program.fieldsOf, Try.underlying29]
    exact (fields_bool (by decide) rfl (part_bool w _ Try.underlying4 _ 0 a.w rfl) (part_bool w _ Try.underlying4 _ 0 b.w rfl) (fields_bool (by decide) rfl (part_bool w _ Try.underlying4 _ 1 a.u rfl) (part_bool w _ Try.underlying4 _ 1 b.u rfl) (fields_last (by decide) rfl (part_bool w _ Try.underlying4 _ 2 a.x rfl) (part_bool w _ Try.underlying4 _ 2 b.x rfl) fields_nil)))
  have i1 := fun (n : Nat) (x y : Int) => run_equalIn_int (P := Try.prog) w n 3 .i64 .i64 x y Try.underlying3
  refine fields_step (c := a.a == b.a) (by decide) (part_int w _ .i64 Try.underlying3 _ 0 a.a rfl) (part_int w _ .i64 Try.underlying3 _ 0 b.a rfl) (i1 _ _ _) ?_
  refine fields_step (c := a.p == b.p) (by decide) (part_int w _ .i64 Try.underlying3 _ 1 a.p rfl) (part_int w _ .i64 Try.underlying3 _ 1 b.p rfl) (i1 _ _ _) ?_
  refine fields_step (c := a.f == b.f) (by decide) (part_int w _ .i64 Try.underlying3 _ 2 a.f rfl) (part_int w _ .i64 Try.underlying3 _ 2 b.f rfl) (i1 _ _ _) ?_
  refine fields_step (c := a.w == b.w && (a.u == b.u && a.x == b.x)) (by decide) (by kernel_rfl) (by kernel_rfl) hR ?_
  exact fields_last (by decide) rfl (part_bool w _ Try.underlying4 _ 6 a.d rfl) (part_bool w _ Try.underlying4 _ 6 b.d rfl) fields_nil
theorem run_eqH (a b : Ht) (w : World) : (binOp .eql 31 a.v b.v).run Try.prog w = .ok (.bool (a.eqb b)) w := by
  have h := run_inH a b w
  unfold Ht.v at h ⊢
  rw [run_eql_struct, h]; rfl
theorem run_neH (a b : Ht) (w : World) : (binOp .neq 31 a.v b.v).run Try.prog w = .ok (.bool (!a.eqb b)) w := by
  have h := run_inH a b w
  unfold Ht.v at h ⊢
  rw [run_neq_struct, h]; rfl

/-- hits as cells, one behind the other -/
def encH (L : List Ht) : List Value := L.flatMap Ht.cl
theorem encH_nil : encH [] = [] := rfl
theorem encH_cons (h : Ht) (L : List Ht) : encH (h :: L) = h.cl ++ encH L := rfl
theorem encH_app (L M : List Ht) : encH (L ++ M) = encH L ++ encH M := by simp [encH]
theorem encH_one (h : Ht) : encH [h] = h.cl := by simp [encH]
theorem encH_len : ∀ L : List Ht, (encH L).length = L.length * 7
  | [] => rfl
  | h :: L => by
    rw [encH_cons, List.length_append, encH_len L, List.length_cons]
    simp [Ht.cl]; omega
theorem encH_at : ∀ (L : List Ht) (j i : Nat), i < 7 → (encH L)[j * 7 + i]? = L[j]?.bind fun h => h.cl[i]?
  | [], j, i, _ => by simp [encH]
  | h :: L, 0, i, hi => by
    rw [encH_cons, List.getElem?_append_left (by simp [Ht.cl]; omega)]
    simp
  | h :: L, j + 1, i, hi => by
    rw [encH_cons, List.getElem?_append_right (by simp [Ht.cl]; omega)]
    have e : (j + 1) * 7 + i - h.cl.length = j * 7 + i := by simp [Ht.cl]; omega
    rw [e, encH_at L j i hi]
    simp
theorem encH_oneCell (L : List Ht) : ∀ u ∈ encH L, u.oneCell' = true := by
  intro u hu
  unfold encH at hu
  rw [List.mem_flatMap] at hu
  obtain ⟨h, _, hu⟩ := hu
  simp only [Ht.cl, List.mem_cons, List.not_mem_nil, or_false] at hu
  rcases hu with rfl | rfl | rfl | rfl | rfl | rfl | rfl <;> rfl

/-- a hit lies here -/
structure HitC (w : World) (b o : Nat) (h : Ht) : Prop where
  c0 : w.cell? ⟨b, o, none⟩ = some (.int .i64 h.a)
  c1 : w.cell? ⟨b, o + 1, none⟩ = some (.int .i64 h.p)
  c2 : w.cell? ⟨b, o + 2, none⟩ = some (.int .i64 h.f)
  c3 : w.cell? ⟨b, o + 3, none⟩ = some (.bool h.w)
  c4 : w.cell? ⟨b, o + 4, none⟩ = some (.bool h.u)
  c5 : w.cell? ⟨b, o + 5, none⟩ = some (.bool h.x)
  c6 : w.cell? ⟨b, o + 6, none⟩ = some (.bool h.d)
theorem HitC.of {w : World} {b o : Nat} {h : Ht} (H : ∀ i u, h.cl[i]? = some u → w.cell? ⟨b, o + i, none⟩ = some u) : HitC w b o h :=
  ⟨H 0 _ rfl, H 1 _ rfl, H 2 _ rfl, H 3 _ rfl, H 4 _ rfl, H 5 _ rfl, H 6 _ rfl⟩
theorem HitC.all {w : World} {b o : Nat} {h : Ht} (H : HitC w b o h) : ∀ i u, h.cl[i]? = some u → w.cell? ⟨b, o + i, none⟩ = some u
  | 0, u, e => by simp [Ht.cl] at e; rw [← e]; exact H.c0
  | 1, u, e => by simp [Ht.cl] at e; rw [← e]; exact H.c1
  | 2, u, e => by simp [Ht.cl] at e; rw [← e]; exact H.c2
  | 3, u, e => by simp [Ht.cl] at e; rw [← e]; exact H.c3
  | 4, u, e => by simp [Ht.cl] at e; rw [← e]; exact H.c4
  | 5, u, e => by simp [Ht.cl] at e; rw [← e]; exact H.c5
  | 6, u, e => by simp [Ht.cl] at e; rw [← e]; exact H.c6
  | i + 7, u, e => by simp [Ht.cl] at e
theorem HitC.chg {S : List Nat} {w w' : World} {b o : Nat} {h : Ht} (H : HitC w b o h) (hc : Chg S w w') (hb : b < w.heap.size) (hn : b ∉ S) : HitC w' b o h :=
  .of fun i u e => (hc.cell (p := ⟨b, o + i, none⟩) hb hn).trans (H.all i u e)

/-- a slice of hits, nil let in, reads as this list -/
structure SlH (w : World) (A : Option Addr) (n : Nat) (L : List Ht) : Prop where
  len : L.length = n
  le : n ≤ 9223372036854775807
  at_ : 0 < n → ∃ b off, A = some ⟨b, off, none⟩ ∧ b < w.heap.size ∧ ∀ j h, L[j]? = some h → HitC w b (off + j * 7) h
theorem SlH.chg {S : List Nat} {w w' : World} {A : Option Addr} {n : Nat} {L : List Ht} (h : SlH w A n L) (hc : Chg S w w') (hn : ∀ b off, A = some ⟨b, off, none⟩ → b ∉ S) : SlH w' A n L :=
  ⟨h.len, h.le, fun h0 => by
    obtain ⟨b, off, rfl, hb, hr⟩ := h.at_ h0
    exact ⟨b, off, rfl, Nat.lt_of_lt_of_le hb hc.size, fun j x hx => (hr j x hx).chg hc hb (hn b off rfl)⟩⟩
theorem SlH.new {w w' : World} {A : Option Addr} {n : Nat} {L : List Ht} (h : SlH w A n L) (hc : Chg [] w w') : SlH w' A n L := h.chg hc (by simp)
theorem SlH.get {w : World} {A : Option Addr} {n : Nat} {L : List Ht} (h : SlH w A n L) {k : Nat} (hk : k < n) :
    ∃ b off, A = some ⟨b, off, none⟩ ∧ b < w.heap.size ∧ HitC w b (off + k * 7) (L.getD k default) := by
  obtain ⟨b, off, e, hb, hr⟩ := h.at_ (by omega)
  have hl := h.len
  exact ⟨b, off, e, hb, hr k _ (by simp [List.getD_eq_getElem?_getD, List.getElem?_eq_getElem (show k < L.length by omega)])⟩
theorem SlH.src {w : World} {A : Option Addr} {n c : Nat} {L : List Ht} (h : SlH w A n L) (hc : A = none → n = 0 ∧ c = 0) : Src w 7 A n c (encH L) :=
  ⟨by rw [encH_len, h.len], encH_oneCell L, hc, fun a ha j u hu => by
    have hj := (List.getElem?_eq_some_iff.1 hu).1
    rw [encH_len] at hj
    have hl := h.len
    obtain ⟨b, off, e, _, hr⟩ := h.at_ (by omega)
    rw [e] at ha; injection ha with ha; subst ha
    have hd : j = j / 7 * 7 + j % 7 := by omega
    rw [hd, encH_at L (j / 7) (j % 7) (by omega)] at hu
    have hlt : j / 7 < L.length := by omega
    rw [List.getElem?_eq_getElem hlt, Option.bind_some] at hu
    have := (hr (j / 7) _ (List.getElem?_eq_getElem hlt)).all _ _ hu
    rw [add_at, hd, ← Nat.add_assoc]; simpa using this⟩

/-- v is a slice of one's own of these hits -/
def OwnH (w : World) (v : Value) (L : List Ht) : Prop := w.ownsRow 0 31 7 v L.length (encH L)
/-- block g holds these hits, and spare cells behind them -/
def RowH (w : World) (g : Nat) (M : List Ht) (tl : List Value) : Prop := Blk w g 31 (encH M ++ tl).toArray

section
variable {w w' : World} {v : Value} {L : List Ht}
theorem OwnH.none_ (w : World) : OwnH w (.slice none 0 0) [] := World.ownsRow_nil _ _ _ _
theorem OwnH.chg {S : List Nat} (h : OwnH w v L) (hc : Chg S w w') (hn : ∀ g ∈ v.ownBlock.toList, g ∉ S) : OwnH w' v L := own_chg h hc fun g hg => hn g (by simp [hg])
theorem OwnH.lt (h : OwnH w v L) : ∀ g ∈ v.ownBlock.toList, g < w.heap.size := fun g hg => (World.ownsRow.lt h g (by simpa using hg)).2
theorem OwnH.form (h : OwnH w v L) : ∃ A c, v = .slice A L.length c ∧ (A = none → L.length = 0 ∧ c = 0) ∧ ∀ a, A = some a → ∃ g, a = ⟨g, 0, none⟩ ∧ g < w.heap.size := by
  obtain ⟨A, c, h1, h2, h3⟩ := own_form h
  exact ⟨A, c, h1, h2, fun a ha => by obtain ⟨g, e, _, hg⟩ := h3 a ha; exact ⟨g, e, hg⟩⟩
theorem OwnH.blk (h : OwnH w v L) {g : Nat} (hg : g ∈ v.ownBlock.toList) : ∃ cur, Blk w g 31 cur := by
  rcases h.2 with ⟨h0, _⟩ | ⟨g', c', cur, hv, _, hb, _⟩
  · subst h0; simp [Value.ownBlock] at hg
  · subst hv; simp [Value.ownBlock] at hg; subst hg; exact ⟨cur, hb⟩
theorem OwnH.pos_ (h : OwnH w v L) (h0 : 0 < L.length) : ∃ g c, v = .slice (some ⟨g, 0, none⟩) L.length c := by
  obtain ⟨g, c, cur, h1, _⟩ := own_blk h h0
  exact ⟨g, c, h1⟩
theorem OwnH.row {g n c : Nat} (h : OwnH w (.slice (some ⟨g, 0, none⟩) n c) L) : ∃ tl, RowH w g L tl ∧ n = L.length ∧ L.length ≤ c ∧ c ≤ 9223372036854775807 ∧ L.length * 7 + tl.length = c * 7 := by
  rcases h.2 with ⟨h0, _⟩ | ⟨g', c', cur, hv, _, hb, h1, h2, h3, h4⟩
  · cases h0
  · injection hv with e1 e2 e3
    injection e1 with e1; injection e1 with e1
    subst e1; subst e3; subst e2
    refine ⟨cur.toList.drop (L.length * 7), ?_, rfl, h1, by simpa [maxLen] using h2, by simp; omega⟩
    unfold RowH
    rw [← h4, List.take_append_drop]
    exact hb
theorem RowH.own {g : Nat} {M : List Ht} {tl : List Value} (h : RowH w g M tl) (k c : Nat) (hk : k ≤ M.length) (hc : M.length * 7 + tl.length = c * 7) (hm : c ≤ 9223372036854775807) : OwnH w (.slice (some ⟨g, 0, none⟩) k c) (M.take k) := by
  have hl : (M.take k).length = k := by simp; omega
  unfold OwnH
  rw [hl]
  refine ⟨by rw [encH_len, hl], .inr ⟨g, c, (encH M ++ tl).toArray, rfl, Nat.zero_le _, h, by omega, by simpa [maxLen] using hm, by simp [encH_len]; omega, ?_⟩⟩
  have e : encH M = encH (M.take k) ++ encH (M.drop k) := by rw [← encH_app, List.take_append_drop]
  rw [show (encH M ++ tl).toArray.toList = encH (M.take k) ++ (encH (M.drop k) ++ tl) by simp [e]]
  rw [List.take_append_of_le_length (by rw [encH_len, hl]; omega), List.take_of_length_le (by rw [encH_len, hl]; omega)]
theorem RowH.own_all {g : Nat} {M : List Ht} {tl : List Value} (h : RowH w g M tl) (c : Nat) (hc : M.length * 7 + tl.length = c * 7) (hm : c ≤ 9223372036854775807) : OwnH w (.slice (some ⟨g, 0, none⟩) M.length c) M := by
  have := h.own M.length c (Nat.le_refl _) hc hm
  rwa [List.take_length] at this
theorem RowH.hit {g : Nat} {M : List Ht} {tl : List Value} (h : RowH w g M tl) {k : Nat} (hk : k < M.length) : HitC w g (k * 7) (M.getD k default) := .of fun i u e => by
  have hi : i < 7 := by have := (List.getElem?_eq_some_iff.1 e).1; simpa [Ht.cl] using this
  rw [Blk.cell (t := 31) h, List.getElem?_toArray, List.getElem?_append_left (by rw [encH_len]; omega), encH_at M k i hi, List.getElem?_eq_getElem hk, Option.bind_some]
  rw [List.getD_eq_getElem?_getD, List.getElem?_eq_getElem hk] at e
  exact e
theorem RowH.lt {g : Nat} {M : List Ht} {tl : List Value} (h : RowH w g M tl) : g < w.heap.size := Blk.lt (t := 31) h
theorem RowH.frozen {g : Nat} {M : List Ht} {tl : List Value} (h : RowH w g M tl) (i : Nat) : w.frozen? ⟨g, i, none⟩ = false := Blk.frozen (t := 31) h i
theorem RowH.chg {S : List Nat} {g : Nat} {M : List Ht} {tl : List Value} (h : RowH w g M tl) (hc : Chg S w w') (hn : g ∉ S) : RowH w' g M tl := hc.blk (t := 31) h hn
theorem OwnH.slh {A : Option Addr} {n c : Nat} (h : OwnH w (.slice A n c) L) : SlH w A n L := by
  obtain ⟨A', c', e, h1, h2⟩ := h.form
  injection e with e1 e2 e3
  subst e1; subst e2; subst e3
  cases hA : A with
  | none => exact ⟨rfl, by have := (h1 hA).1; omega, fun h0 => absurd h0 (by have := (h1 hA).1; omega)⟩
  | some a =>
    obtain ⟨g, rfl, hg⟩ := h2 a hA
    subst hA
    obtain ⟨tl, hr, _, hc1, hc2, _⟩ := h.row
    exact ⟨rfl, by omega, fun _ => ⟨g, 0, rfl, hg, fun j x hx => by
      have hj := (List.getElem?_eq_some_iff.1 hx).1
      have := hr.hit hj
      rw [List.getD_eq_getElem?_getD, hx] at this
      simpa using this⟩⟩
theorem OwnH.src {A : Option Addr} {n c : Nat} (h : OwnH w (.slice A n c) L) : Src w 7 A n c (encH L) := by
  refine h.slh.src fun hA => ?_
  obtain ⟨A', c', e, h1, _⟩ := h.form
  injection e with e1 e2 e3
  subst e1; subst e2; subst e3
  exact h1 hA
end

/-- cells written one behind the other into a block -/
def setV (l : List Value) (o : Nat) (xs : List Value) : List Value := l.take o ++ xs ++ l.drop (o + xs.length)
theorem setV_len {l : List Value} {o : Nat} {xs : List Value} (h : o + xs.length ≤ l.length) : (setV l o xs).length = l.length := by
  simp [setV]; omega
theorem setV_cons {l : List Value} {o : Nat} {x : Value} {xs : List Value} (h : o + (x :: xs).length ≤ l.length) : setV (l.set o x) (o + 1) xs = setV l o (x :: xs) := by
  simp only [List.length_cons] at h
  unfold setV
  rw [List.drop_set_of_lt (by omega), List.length_cons, show o + 1 + xs.length = o + (xs.length + 1) by omega]
  congr 1
  rw [List.take_set, List.take_succ_eq_append_getElem (by omega), List.set_append_right o x (by simp; omega)]
  simp [show o - min o l.length = 0 by omega]
theorem setCells_V {g : Nat} {t : TypeId} : ∀ (xs : List Value) (o : Nat) (l : List Value) (w : World), Blk w g t l.toArray → o + xs.length ≤ l.length → Blk (w.setCells g o xs) g t (setV l o xs).toArray
  | [], o, l, w, h, _ => by simpa [setV, World.setCells] using h
  | x :: r, o, l, w, h, hl => by
    rw [World.setCells, ← setV_cons hl]
    refine setCells_V r _ _ _ ?_ (by simp at hl ⊢; omega)
    have := h.set_ o x
    simpa using this

/-- the cells of a hit that is written to place i -/
theorem encH_set {M : List Ht} {i : Nat} {h : Ht} {tl : List Value} (hi : i < M.length) : setV (encH M ++ tl) (i * 7) h.cl = encH (M.set i h) ++ tl := by
  have e : M = M.take i ++ (M.getD i default :: M.drop (i + 1)) := by
    rw [List.getD_eq_getElem?_getD, List.getElem?_eq_getElem hi, Option.getD_some, List.getElem_cons_drop, List.take_append_drop]
  have e2 : M.set i h = M.take i ++ (h :: M.drop (i + 1)) := by
    rw [List.set_eq_take_append_cons_drop, if_pos hi]
  have l1 : (encH (M.take i)).length = i * 7 := by rw [encH_len]; simp; omega
  unfold setV
  rw [e2, encH_app, encH_cons]
  generalize hx : M.getD i default = x at e
  have e3 : encH M = encH (M.take i) ++ (x.cl ++ encH (M.drop (i + 1))) := by rw [← encH_cons, ← encH_app, ← e]
  rw [e3, List.append_assoc (encH (M.take i)), List.take_append_of_le_length (by omega), List.take_of_length_le (by omega)]
  rw [List.drop_append, l1, List.drop_of_length_le (by omega)]
  have : i * 7 + h.cl.length - i * 7 = x.cl.length := by simp [Ht.cl]
  rw [this, List.append_assoc (x.cl), List.drop_left]
  simp
theorem RowH.set {w : World} {g i : Nat} {M : List Ht} {tl : List Value} (h : RowH w g M tl) (hi : i < M.length) (x : Ht) : RowH (w.setCells g (i * 7) x.cl) g (M.set i x) tl := by
  unfold RowH
  rw [← encH_set hi]
  exact setCells_V _ _ _ _ h (by simp [encH_len, Ht.cl]; omega)

theorem zeroH (w : World) : (zeroValue 31).run Try.prog w = .ok Ht.zero.v w := by kernel_rfl
theorem info_H : ((Try.prog.info? 31).map (fun i => (i.zero, i.size, i.bytes))) = some (some Ht.zero.v, 7, 32) := by kernel_rfl

/-- clear, of a part of a row of hits: so many cells are written -/
theorem run_clear_H (w : World) (b o n c : Nat) (hn : 0 < n)
    (hc : ∀ j, j < n * 7 → (w.cell? ⟨b, o + j, none⟩).isSome = true) (hf : ∀ j, j < n * 7 → w.frozen? ⟨b, o + j, none⟩ = false) :
    ∃ xs : List Value, xs.length = n * 7 ∧ ∀ ty, (Builtin.clear_ #[41] ty #[.slice (some ⟨b, o, none⟩) n c]).run Try.prog w = .ok (.tuple #[]) (w.setCells b o xs) := by
  have hz : Ht.zero.v.cells = #[.int .i64 0, .int .i64 0, .int .i64 0, .bool false, .bool false, .bool false, .bool false] := rfl
  refine ⟨(Builtin.zeroCells Ht.zero.v.cells n).toList, by simp [Builtin.zeroCells, hz], fun ty => ?_⟩
  have hst := run_storeCells_cells (P := Try.prog) b o (Builtin.zeroCells Ht.zero.v.cells n).toList 0 w (by simpa [Builtin.zeroCells, hz] using hc) (by simpa [Builtin.zeroCells, hz] using hf) (by
    intro v hv
    simp only [Builtin.zeroCells, Array.toList_map, List.mem_map, hz, Array.mem_toList_iff, Array.mem_range] at hv
    obtain ⟨i, _, rfl⟩ := hv
    have h7 : i % 7 < 7 := Nat.mod_lt _ (by decide)
    simp only [List.size_toArray, List.length_cons, List.length_nil, Nat.reduceAdd]
    generalize i % 7 = k at h7
    obtain rfl | rfl | rfl | rfl | rfl | rfl | rfl : k = 0 ∨ k = 1 ∨ k = 2 ∨ k = 3 ∨ k = 4 ∨ k = 5 ∨ k = 6 := by omega
    all_goals rfl)
  simp only [Nat.add_zero] at hst
  obtain ⟨m, rfl⟩ : ∃ m, n = m + 1 := ⟨n - 1, by omega⟩
  simp only [Ht.v, Ht.zero] at hst
  simp [Builtin.clear_, run_underlying Try.underlying41, Ht.v, Ht.zero, hst]

end Go.Proofs.Ytikdoldmhlbklaa
