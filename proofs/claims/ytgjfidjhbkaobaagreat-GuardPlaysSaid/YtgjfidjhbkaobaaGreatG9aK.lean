/-
 TlbA, TlbB, TlbC, TlbD, TlbE, TlbF, TlbG, TlbH, TlbI in one text.
-/
import Derived.Test.YtgjfidjhbkaobaaGreatG0K
import Derived.Lib.SliceRun
import Derived.Deep.RegionLaw
import Derived.Deep.LoopGhost
import Derived.Test.YtgjfidjhbkaobaaGreatProg
import Derived.Shelf.Abstract
namespace Go.Proofs.YtgjfidjhbkaobaaGreat
open Go.RowKit
structure Ht where
 a : Int
 p : Int
 f : Int
 w : Bool
 u : Bool
 x : Bool
 d : Bool
def Ht.cl (h : Ht) : List Value := [.int .i64 h.a, .int .i64 h.p, .int .i64 h.f, .bool h.w, .bool h.u, .bool h.x, .bool h.d]
def Ht.v (h : Ht) : Value := .agg #[.int .i64 h.a, .int .i64 h.p, .int .i64 h.f, .bool h.w, .bool h.u, .bool h.x, .bool h.d]
def Ht.zero : Ht := ⟨0, 0, 0, false, false, false, false⟩
theorem Ht.ext_ {a b : Ht} (h1 : a.a = b.a) (h2 : a.p = b.p) (h3 : a.f = b.f) (h4 : a.w = b.w) (h5 : a.u = b.u) (h6 : a.x = b.x) (h7 : a.d = b.d) : a = b := by
 cases a; cases b; simp at h1 h2 h3 h4 h5 h6 h7; simp [h1, h2, h3, h4, h5, h6, h7]
def Ht.eqb (a b : Ht) : Bool := a.a == b.a && (a.p == b.p && (a.f == b.f && ((a.w == b.w && (a.u == b.u && a.x == b.x)) && a.d == b.d)))
theorem Ht.eqb_iff (a b : Ht) : a.eqb b = true ↔ a = b := by
 simp only [Ht.eqb, Bool.and_eq_true, beq_iff_eq]
 constructor
 ·rintro ⟨h1, h2, h3, ⟨h4, h5, h6⟩, h7⟩; exact Ht.ext_ h1 h2 h3 h4 h5 h6 h7
 rintro rfl; simp
theorem Ht.eqb_self (a : Ht) : a.eqb a = true := (Ht.eqb_iff a a).2 rfl
instance Ht.dec : DecidableEq Ht := fun a b => decidable_of_iff _ (Ht.eqb_iff a b)
instance Ht.inh : Inhabited Ht := ⟨Ht.zero⟩
def Ht.isK (h : Ht) (a p : Int) : Bool := h.a == a && h.p == p
set_option maxRecDepth 100000 in
theorem run_inH (a b : Ht) (w : World) : (Op.equalIn 10000 94 a.v b.v).run Tryz.prog w = .ok (a.eqb b) w := by
 unfold Ht.v
 rw [run_equalIn_struct w 9999 _ _ _ (by kernel_rfl) (by kernel_rfl)]
 simp only [Program.fieldsOf, Tryz.underlying94]
 have hR : (Op.equalIn 9999 35 (.agg #[.bool a.w, .bool a.u, .bool a.x]) (.agg #[.bool b.w, .bool b.u, .bool b.x])).run Tryz.prog w = .ok (a.w == b.w && (a.u == b.u && a.x == b.x)) w := by
  rw [run_equalIn_struct w 9998 _ _ _ (by kernel_rfl) (by kernel_rfl)]
  simp only [Program.fieldsOf, Tryz.underlying35]
  exact (fields_bool (by decide) rfl (part_bool w _ Tryz.underlying4 _ 0 a.w rfl) (part_bool w _ Tryz.underlying4 _ 0 b.w rfl) (fields_bool (by decide) rfl (part_bool w _ Tryz.underlying4 _ 1 a.u rfl) (part_bool w _ Tryz.underlying4 _ 1 b.u rfl) (fields_last (by decide) rfl (part_bool w _ Tryz.underlying4 _ 2 a.x rfl) (part_bool w _ Tryz.underlying4 _ 2 b.x rfl) fields_nil)))
 have i1 := fun (n : Nat) (x y : Int) => run_equalIn_int (P := Tryz.prog) w n 3 .i64 .i64 x y Tryz.underlying3
 refine fields_step (c := a.a == b.a) (by decide) (part_int w _ .i64 Tryz.underlying3 _ 0 a.a rfl) (part_int w _ .i64 Tryz.underlying3 _ 0 b.a rfl) (i1 _ _ _) ?_
 refine fields_step (c := a.p == b.p) (by decide) (part_int w _ .i64 Tryz.underlying3 _ 1 a.p rfl) (part_int w _ .i64 Tryz.underlying3 _ 1 b.p rfl) (i1 _ _ _) ?_
 refine fields_step (c := a.f == b.f) (by decide) (part_int w _ .i64 Tryz.underlying3 _ 2 a.f rfl) (part_int w _ .i64 Tryz.underlying3 _ 2 b.f rfl) (i1 _ _ _) ?_
 refine fields_step (c := a.w == b.w && (a.u == b.u && a.x == b.x)) (by decide) (by kernel_rfl) (by kernel_rfl) hR ?_
 exact fields_last (by decide) rfl (part_bool w _ Tryz.underlying4 _ 6 a.d rfl) (part_bool w _ Tryz.underlying4 _ 6 b.d rfl) fields_nil
theorem run_neH (a b : Ht) (w : World) : (binOp .neq 94 a.v b.v).run Tryz.prog w = .ok (.bool (!a.eqb b)) w := by
 have h := run_inH a b w
 unfold Ht.v at h ⊢
 rw [run_neq_struct, h]; rfl
def encH (L : List Ht) : List Value := L.flatMap Ht.cl
theorem encH_cons (h : Ht) (L : List Ht) : encH (h :: L) = h.cl ++ encH L := rfl
theorem encH_app (L M : List Ht) : encH (L ++ M) = encH L ++ encH M := by simp [encH]
theorem encH_one (h : Ht) : encH [h] = h.cl := by simp [encH]
theorem encH_len : ∀ L : List Ht, (encH L).length = L.length * 7
 | [] => rfl
 | h :: L => by
  rw [encH_cons, List.length_append, encH_len L, List.length_cons]
  simp [Ht.cl]; omega
theorem encH_at : ∀ (L : List Ht) (j i : Nat), i < 7 → (encH L)[j * 7 + i]? = L[j]?.bind fun h => h.cl[i]?
 | [], j, i, _ => by simp [encH]
 | h :: L, 0, i, hi => by
  rw [encH_cons, List.getElem?_append_left (by simp [Ht.cl]; omega)]
  simp
 | h :: L, j + 1, i, hi => by
  rw [encH_cons, List.getElem?_append_right (by simp [Ht.cl]; omega)]
  have e : (j + 1) * 7 + i - h.cl.length = j * 7 + i := by simp [Ht.cl]; omega
  rw [e, encH_at L j i hi]
  simp
theorem encH_oneCell (L : List Ht) : ∀ u ∈ encH L, u.oneCell' = true := by
 intro u hu
 unfold encH at hu
 rw [List.mem_flatMap] at hu
 obtain ⟨h, _, hu⟩ := hu
 simp only [Ht.cl, List.mem_cons, List.not_mem_nil, or_false] at hu
 rcases hu with rfl | rfl | rfl | rfl | rfl | rfl | rfl <;> rfl
structure HitC (w : World) (b o : Nat) (h : Ht) : Prop where
 c0 : w.cell? ⟨b, o, none⟩ = some (.int .i64 h.a)
 c1 : w.cell? ⟨b, o + 1, none⟩ = some (.int .i64 h.p)
 c2 : w.cell? ⟨b, o + 2, none⟩ = some (.int .i64 h.f)
 c3 : w.cell? ⟨b, o + 3, none⟩ = some (.bool h.w)
 c4 : w.cell? ⟨b, o + 4, none⟩ = some (.bool h.u)
 c5 : w.cell? ⟨b, o + 5, none⟩ = some (.bool h.x)
 c6 : w.cell? ⟨b, o + 6, none⟩ = some (.bool h.d)
theorem HitC.of {w : World} {b o : Nat} {h : Ht} (H : ∀ i u, h.cl[i]? = some u → w.cell? ⟨b, o + i, none⟩ = some u) : HitC w b o h :=
 ⟨H 0 _ rfl, H 1 _ rfl, H 2 _ rfl, H 3 _ rfl, H 4 _ rfl, H 5 _ rfl, H 6 _ rfl⟩
theorem HitC.all {w : World} {b o : Nat} {h : Ht} (H : HitC w b o h) : ∀ i u, h.cl[i]? = some u → w.cell? ⟨b, o + i, none⟩ = some u
 | 0, u, e => by simp [Ht.cl] at e; rw [← e]; exact H.c0
 | 1, u, e => by simp [Ht.cl] at e; rw [← e]; exact H.c1
 | 2, u, e => by simp [Ht.cl] at e; rw [← e]; exact H.c2
 | 3, u, e => by simp [Ht.cl] at e; rw [← e]; exact H.c3
 | 4, u, e => by simp [Ht.cl] at e; rw [← e]; exact H.c4
 | 5, u, e => by simp [Ht.cl] at e; rw [← e]; exact H.c5
 | 6, u, e => by simp [Ht.cl] at e; rw [← e]; exact H.c6
 | i + 7, u, e => by simp [Ht.cl] at e
theorem HitC.chg {S : List Nat} {w w' : World} {b o : Nat} {h : Ht} (H : HitC w b o h) (hc : Chg S w w') (hb : b < w.heap.size) (hn : b ∉ S) : HitC w' b o h :=
 .of fun i u e => (hc.cell (p := ⟨b, o + i, none⟩) hb hn).trans (H.all i u e)
structure SlH (w : World) (A : Option Addr) (n : Nat) (L : List Ht) : Prop where
 len : L.length = n
 le : n ≤ 9223372036854775807
 at_ : 0 < n → ∃ b off, A = some ⟨b, off, none⟩ ∧ b < w.heap.size ∧ ∀ j h, L[j]? = some h → HitC w b (off + j * 7) h
theorem SlH.chg {S : List Nat} {w w' : World} {A : Option Addr} {n : Nat} {L : List Ht} (h : SlH w A n L) (hc : Chg S w w') (hn : ∀ b off, A = some ⟨b, off, none⟩ → b ∉ S) : SlH w' A n L :=
 ⟨h.len, h.le, fun h0 => by
  obtain ⟨b, off, rfl, hb, hr⟩ := h.at_ h0
  exact ⟨b, off, rfl, Nat.lt_of_lt_of_le hb hc.size, fun j x hx => (hr j x hx).chg hc hb (hn b off rfl)⟩⟩
theorem SlH.new {w w' : World} {A : Option Addr} {n : Nat} {L : List Ht} (h : SlH w A n L) (hc : Chg [] w w') : SlH w' A n L := h.chg hc (by simp)
theorem SlH.get {w : World} {A : Option Addr} {n : Nat} {L : List Ht} (h : SlH w A n L) {k : Nat} (hk : k < n) :
  ∃ b off, A = some ⟨b, off, none⟩ ∧ b < w.heap.size ∧ HitC w b (off + k * 7) (L.getD k default) := by
 obtain ⟨b, off, e, hb, hr⟩ := h.at_ (by omega)
 have hl := h.len
 exact ⟨b, off, e, hb, hr k _ (by simp [List.getD_eq_getElem?_getD, List.getElem?_eq_getElem (show k < L.length by omega)])⟩
theorem SlH.src {w : World} {A : Option Addr} {n c : Nat} {L : List Ht} (h : SlH w A n L) (hc : A = none → n = 0 ∧ c = 0) : Src w 7 A n c (encH L) :=
 ⟨by rw [encH_len, h.len], encH_oneCell L, hc, fun a ha j u hu => by
  have hj := (List.getElem?_eq_some_iff.1 hu).1
  rw [encH_len] at hj
  have hl := h.len
  obtain ⟨b, off, e, _, hr⟩ := h.at_ (by omega)
  rw [e] at ha; injection ha with ha; subst ha
  have hd : j = j / 7 * 7 + j % 7 := by omega
  rw [hd, encH_at L (j / 7) (j % 7) (by omega)] at hu
  have hlt : j / 7 < L.length := by omega
  rw [List.getElem?_eq_getElem hlt, Option.bind_some] at hu
  have := (hr (j / 7) _ (List.getElem?_eq_getElem hlt)).all _ _ hu
  rw [add_at, hd, ← Nat.add_assoc]; simpa using this⟩
def OwnH (w : World) (v : Value) (L : List Ht) : Prop := w.ownsRow 0 94 7 v L.length (encH L)
def RowH (w : World) (g : Nat) (M : List Ht) (tl : List Value) : Prop := Blk w g 94 (encH M ++ tl).toArray
section
variable {w w' : World} {v : Value} {L : List Ht}
theorem OwnH.none_ (w : World) : OwnH w (.slice none 0 0) [] := World.ownsRow_nil _ _ _ _
theorem OwnH.chg {S : List Nat} (h : OwnH w v L) (hc : Chg S w w') (hn : ∀ g ∈ v.ownBlock.toList, g ∉ S) : OwnH w' v L := own_chg h hc fun g hg => hn g (by simp [hg])
theorem OwnH.lt (h : OwnH w v L) : ∀ g ∈ v.ownBlock.toList, g < w.heap.size := fun g hg => (World.ownsRow.lt h g (by simpa using hg)).2
theorem OwnH.form (h : OwnH w v L) : ∃ A c, v = .slice A L.length c ∧ (A = none → L.length = 0 ∧ c = 0) ∧ ∀ a, A = some a → ∃ g, a = ⟨g, 0, none⟩ ∧ g < w.heap.size := by
 obtain ⟨A, c, h1, h2, h3⟩ := own_form h
 exact ⟨A, c, h1, h2, fun a ha => by obtain ⟨g, e, _, hg⟩ := h3 a ha; exact ⟨g, e, hg⟩⟩
theorem OwnH.blk (h : OwnH w v L) {g : Nat} (hg : g ∈ v.ownBlock.toList) : ∃ cur, Blk w g 94 cur := by
 rcases h.2 with ⟨h0, _⟩ | ⟨g', c', cur, hv, _, hb, _⟩
 ·subst h0; simp [Value.ownBlock] at hg
 subst hv; simp [Value.ownBlock] at hg; subst hg; exact ⟨cur, hb⟩
theorem OwnH.pos_ (h : OwnH w v L) (h0 : 0 < L.length) : ∃ g c, v = .slice (some ⟨g, 0, none⟩) L.length c := by
 obtain ⟨g, c, cur, h1, _⟩ := own_blk h h0
 exact ⟨g, c, h1⟩
theorem OwnH.row {g n c : Nat} (h : OwnH w (.slice (some ⟨g, 0, none⟩) n c) L) : ∃ tl, RowH w g L tl ∧ n = L.length ∧ L.length ≤ c ∧ c ≤ 9223372036854775807 ∧ L.length * 7 + tl.length = c * 7 := by
 rcases h.2 with ⟨h0, _⟩ | ⟨g', c', cur, hv, _, hb, h1, h2, h3, h4⟩
 ·cases h0
 injection hv with e1 e2 e3
 injection e1 with e1; injection e1 with e1
 subst e1; subst e3; subst e2
 refine ⟨cur.toList.drop (L.length * 7), ?_, rfl, h1, by simpa [maxLen] using h2, by simp; omega⟩
 unfold RowH
 rw [← h4, List.take_append_drop]
 exact hb
theorem RowH.own {g : Nat} {M : List Ht} {tl : List Value} (h : RowH w g M tl) (k c : Nat) (hk : k ≤ M.length) (hc : M.length * 7 + tl.length = c * 7) (hm : c ≤ 9223372036854775807) : OwnH w (.slice (some ⟨g, 0, none⟩) k c) (M.take k) := by
 have hl : (M.take k).length = k := by simp; omega
 unfold OwnH
 rw [hl]
 refine ⟨by rw [encH_len, hl], .inr ⟨g, c, (encH M ++ tl).toArray, rfl, Nat.zero_le _, h, by omega, by simpa [maxLen] using hm, by simp [encH_len]; omega, ?_⟩⟩
 have e : encH M = encH (M.take k) ++ encH (M.drop k) := by rw [← encH_app, List.take_append_drop]
 rw [show (encH M ++ tl).toArray.toList = encH (M.take k) ++ (encH (M.drop k) ++ tl) by simp [e]]
 rw [List.take_append_of_le_length (by rw [encH_len, hl]; omega), List.take_of_length_le (by rw [encH_len, hl]; omega)]
theorem RowH.own_all {g : Nat} {M : List Ht} {tl : List Value} (h : RowH w g M tl) (c : Nat) (hc : M.length * 7 + tl.length = c * 7) (hm : c ≤ 9223372036854775807) : OwnH w (.slice (some ⟨g, 0, none⟩) M.length c) M := by
 have := h.own M.length c (Nat.le_refl _) hc hm
 rwa [List.take_length] at this
theorem RowH.hit {g : Nat} {M : List Ht} {tl : List Value} (h : RowH w g M tl) {k : Nat} (hk : k < M.length) : HitC w g (k * 7) (M.getD k default) := .of fun i u e => by
 have hi : i < 7 := by have := (List.getElem?_eq_some_iff.1 e).1; simpa [Ht.cl] using this
 rw [Blk.cell (t := 94) h, qA, List.getElem?_append_left (by rw [encH_len]; omega), encH_at M k i hi, List.getElem?_eq_getElem hk, Option.bind_some]
 rw [List.getD_eq_getElem?_getD, List.getElem?_eq_getElem hk] at e
 exact e
theorem RowH.lt {g : Nat} {M : List Ht} {tl : List Value} (h : RowH w g M tl) : g < w.heap.size := Blk.lt (t := 94) h
theorem RowH.frozen {g : Nat} {M : List Ht} {tl : List Value} (h : RowH w g M tl) (i : Nat) : w.frozen? ⟨g, i, none⟩ = false := Blk.frozen (t := 94) h i
theorem RowH.chg {S : List Nat} {g : Nat} {M : List Ht} {tl : List Value} (h : RowH w g M tl) (hc : Chg S w w') (hn : g ∉ S) : RowH w' g M tl := hc.blk (t := 94) h hn
theorem OwnH.slh {A : Option Addr} {n c : Nat} (h : OwnH w (.slice A n c) L) : SlH w A n L := by
 obtain ⟨A', c', e, h1, h2⟩ := h.form
 injection e with e1 e2 e3
 subst e1; subst e2; subst e3
 cases hA : A with
 | none => exact ⟨rfl, by have := (h1 hA).1; omega, fun h0 => absurd h0 (by have := (h1 hA).1; omega)⟩
 | some a =>
  obtain ⟨g, rfl, hg⟩ := h2 a hA
  subst hA
  obtain ⟨tl, hr, _, hc1, hc2, _⟩ := h.row
  exact ⟨rfl, by omega, fun _ => ⟨g, 0, rfl, hg, fun j x hx => by
   have hj := (List.getElem?_eq_some_iff.1 hx).1
   have := hr.hit hj
   rw [List.getD_eq_getElem?_getD, hx] at this
   simpa using this⟩⟩
theorem OwnH.src {A : Option Addr} {n c : Nat} (h : OwnH w (.slice A n c) L) : Src w 7 A n c (encH L) := by
 refine h.slh.src fun hA => ?_
 obtain ⟨A', c', e, h1, _⟩ := h.form
 injection e with e1 e2 e3
 subst e1; subst e2; subst e3
 exact h1 hA
end
theorem info_H : ((Tryz.prog.info? 94).map (fun i => (i.zero, i.size, i.bytes))) = some (some Ht.zero.v, 7, 32) := by kernel_rfl
theorem run_clear_H (w : World) (b o n c : Nat) (hn : 0 < n)
  (hc : ∀ j, j < n * 7 → (w.cell? ⟨b, o + j, none⟩).isSome = true) (hf : ∀ j, j < n * 7 → w.frozen? ⟨b, o + j, none⟩ = false) :
  ∃ xs : List Value, xs.length = n * 7 ∧ ∀ ty, (Builtin.clear_ #[59] ty #[.slice (some ⟨b, o, none⟩) n c]).run Tryz.prog w = .ok (.tuple #[]) (w.setCells b o xs) := by
 have hz : Ht.zero.v.cells = #[.int .i64 0, .int .i64 0, .int .i64 0, .bool false, .bool false, .bool false, .bool false] := rfl
 refine ⟨(Builtin.zeroCells Ht.zero.v.cells n).toList, by simp [Builtin.zeroCells, hz], fun ty => ?_⟩
 have hst := run_storeCells_cells (P := Tryz.prog) b o (Builtin.zeroCells Ht.zero.v.cells n).toList 0 w (by simpa [Builtin.zeroCells, hz] using hc) (by simpa [Builtin.zeroCells, hz] using hf) (by
  intro v hv
  simp only [Builtin.zeroCells, Array.toList_map, List.mem_map, hz, Array.mem_toList_iff, Array.mem_range] at hv
  obtain ⟨i, _, rfl⟩ := hv
  have h7 : i % 7 < 7 := Nat.mod_lt _ (by decide)
  simp only [List.size_toArray, List.length_cons, List.length_nil, Nat.reduceAdd]
  generalize i % 7 = k at h7
  obtain rfl | rfl | rfl | rfl | rfl | rfl | rfl : k = 0 ∨ k = 1 ∨ k = 2 ∨ k = 3 ∨ k = 4 ∨ k = 5 ∨ k = 6 := by omega
  all_goals rfl)
 simp only [Nat.add_zero] at hst
 obtain ⟨m, rfl⟩ : ∃ m, n = m + 1 := ⟨n - 1, by omega⟩
 simp only [Ht.v, Ht.zero] at hst
 simp [Builtin.clear_, run_underlying Tryz.underlying59, Ht.v, Ht.zero, hst]
theorem of_any (h : Ht) (w : World) : Calls Tryz.prog 151 #[h.v] w fun e w' => e = .returned (.agg #[.int .i64 h.a, .int .i64 h.p]) ∧ Chg [] w w' := by
 unfold Ht.v
 have hb := Blk.new (w.alloc (.cells #[.int .i64 h.a, .int .i64 h.p, .int .i64 h.f, .bool h.w, .bool h.u, .bool h.x, .bool h.d] 94)) 176 #[.int .i64 h.a, .int .i64 h.p]
 rw [World.size_alloc] at hb
 go_enter Tryz.func151, Tryz.ntmps151
 go_wp2
 try simp only [Exit.inBlock, Exit.then]
 refine bodyPost_ret (cell_ret rfl hb rfl Tryz.underlying176 rfl (by kernel_rfl)) rfl ?_
 exact ⟨rfl, ((Chg.refl [] w).alloc _).alloc _⟩
theorem run_eqK (a p b q : Int) (w : World) : (binOp .eql 176 (.agg #[.int .i64 a, .int .i64 p]) (.agg #[.int .i64 b, .int .i64 q])).run Tryz.prog w = .ok (.bool (a == b && p == q)) w := by
 have h : (Op.equalIn 10000 176 (.agg #[.int .i64 a, .int .i64 p]) (.agg #[.int .i64 b, .int .i64 q])).run Tryz.prog w = .ok (a == b && p == q) w := by
  rw [run_equalIn_struct w 9999 _ _ _ (by kernel_rfl) (by kernel_rfl)]
  simp only [Program.fieldsOf, Tryz.underlying176]
  refine fields_step (c := a == b) (r := p == q) (by decide) (part_int w _ .i64 Tryz.underlying3 _ 0 a rfl) (part_int w _ .i64 Tryz.underlying3 _ 0 b rfl) (run_equalIn_int w 9998 _ .i64 .i64 a b Tryz.underlying3) ?_
  exact fields_int Tryz.underlying3 (by decide) rfl (part_int w _ .i64 Tryz.underlying3 _ 1 p rfl) (part_int w _ .i64 Tryz.underlying3 _ 1 q rfl) fields_nil
 rw [run_eql_struct, h]; rfl
set_option maxHeartbeats 1000000 in
theorem placeP_any (h : Ht) (kb : Nat) (a p : Int) (w : World) (hk : Blk w kb 176 #[.int .i64 a, .int .i64 p]) :
  Calls Tryz.prog 150 #[h.v, .pointer (some ⟨kb, 0, none⟩)] w fun e w' => e = .returned (.bool (h.isK a p)) ∧ Chg [] w w' := by
 have hof := fun w => of_any h w
 have hq := fun w0 => run_eqK h.a h.p a p w0
 have hb := Blk.new w 94 #[.int .i64 h.a, .int .i64 h.p, .int .i64 h.f, .bool h.w, .bool h.u, .bool h.x, .bool h.d]
 have hk1 := hk.alloc (.cells #[.int .i64 h.a, .int .i64 h.p, .int .i64 h.f, .bool h.w, .bool h.u, .bool h.x, .bool h.d] 94)
 have hc1 := (Chg.refl [] w).alloc (.cells #[.int .i64 h.a, .int .i64 h.p, .int .i64 h.f, .bool h.w, .bool h.u, .bool h.x, .bool h.d] 94)
 unfold Ht.isK
 unfold Ht.v at *
 generalize (h.a == a && h.p == p) = r at *
 obtain ⟨ha, hp, hf, hw, hu, hx, hd⟩ := h
 simp only at *
 clear hk
 go_enter Tryz.func150, Tryz.ntmps150
 go_wp2_with fail
 generalize w.alloc (.cells #[.int .i64 ha, .int .i64 hp, .int .i64 hf, .bool hw, .bool hu, .bool hx, .bool hd] 94) = w1 at *
 have h0 := hb.cell 0; have h1 := hb.cell 1; have h2 := hb.cell 2; have h3 := hb.cell 3; have h4 := hb.cell 4; have h5 := hb.cell 5; have h6 := hb.cell 6
 have g0 := hk1.cell 0; have g1 := hk1.cell 1
 simp only [qA, qZ, qS] at h0 h1 h2 h3 h4 h5 h6 g0 g1
 have b0 := fun n : Cls w1 => n.cell h0; have b1 := fun n : Cls w1 => n.cell h1; have b2 := fun n : Cls w1 => n.cell h2; have b3 := fun n : Cls w1 => n.cell h3; have b4 := fun n : Cls w1 => n.cell h4; have b5 := fun n : Cls w1 => n.cell h5; have b6 := fun n : Cls w1 => n.cell h6
 have k0 := fun n : Cls w1 => n.cell g0; have k1 := fun n : Cls w1 => n.cell g1
 clear h0 h1 h2 h3 h4 h5 h6 g0 g1
 clear hb hk1
 refine wp_region_cls (by kernel_rfl) (by kernel_rfl) ?_
 repeat (go_big_quiet_step (first | (go_at_call 151; with_reducible exact Calls.cls (hof _))))
 refine wpQuiet_nil ?_
 rintro _ ⟨n, rfl⟩
 go_wp2_with fail
 go_ret
 exact ⟨rfl, hc1.trans n.ok (by simp)⟩
def firstI (q : Ht → Bool) (L : List Ht) : Int := if L.any q then (L.findIdx q : Int) else -1
theorem first_hit {q : Ht → Bool} {L : List Ht} {k : Nat} (hk : k < L.length) (h1 : q (L.getD k default) = true) (h0 : ∀ j, j < k → q (L.getD j default) = false) : firstI q L = k := by
 have e : L.getD k default = L[k] := by simp [List.getD_eq_getElem?_getD, List.getElem?_eq_getElem hk]
 rw [e] at h1
 have h2 : L.any q = true := List.any_eq_true.2 ⟨_, List.getElem_mem hk, h1⟩
 unfold firstI
 rw [h2, if_pos rfl, (List.findIdx_eq hk).2 ⟨h1, fun j hj => by
  have := h0 j hj
  rw [List.getD_eq_getElem?_getD, List.getElem?_eq_getElem (show j < L.length by omega), Option.getD_some] at this
  simp [this]⟩]
theorem first_miss {q : Ht → Bool} {L : List Ht} (h0 : ∀ j, j < L.length → q (L.getD j default) = false) : firstI q L = -1 := by
 have h2 : L.any q = false := by
  rw [List.any_eq_false]
  intro x hx
  obtain ⟨j, hj, rfl⟩ := List.getElem_of_mem hx
  have := h0 j hj
  rw [List.getD_eq_getElem?_getD, List.getElem?_eq_getElem hj, Option.getD_some] at this
  simp [this]
 unfold firstI
 rw [h2]; rfl
set_option maxHeartbeats 2000000 in
theorem indexFunc_any (q : Ht → Bool) (g : Nat) (kb : Nat) (eg : ∀ args w, (callFunc g args).run Tryz.prog w = .ok (.enter g args) w) (A : Option Addr) (n c : Nat) (L : List Ht) (w : World)
  (hp : ∀ (h : Ht) (W : World), Chg [] w W → Calls Tryz.prog g #[h.v, .pointer (some ⟨kb, 0, none⟩)] W fun e w' => e = .returned (.bool (q h)) ∧ Chg [] W w') (hl : SlH w A n L) :
  Calls Tryz.prog 149 #[.slice A n c, .func (.func g) #[] #[.pointer (some ⟨kb, 0, none⟩)]] w fun e w' => e = .returned (.int .i64 (firstI q L)) ∧ Chg [] w w' := by
 have hlen := hl.len; have hle := hl.le
 have HL := Lib.hid hlen; clear hlen
 go_enter Tryz.func149, Tryz.ntmps149
 go_wp2
 go_loopg [5, 8] n (fun gg _ s8 wr => ∃ kk : Nat, kk ≤ n ∧ n - kk ≤ gg ∧ s8 = .int .i64 kk ∧ Aside (Chg [] w wr) ∧ Aside (∀ j, j < kk → q (L.getD j default) = false))
 case atStart => exact ⟨0, Nat.zero_le _, by omega, rfl, Chg.refl _ w, fun j hj => absurd hj (Nat.not_lt_zero _)⟩
 obtain ⟨kk, hkk, hg, rfl, BW, HA⟩ := hrel
 by_cases hlt : kk < n
 ·have hltz : (kk : Int) < (n : Int) := by omega
  obtain ⟨b, off, rfl, hb, hc⟩ := (hl.new BW.out).get hlt
  have hcall := hp (L.getD kk default) wr BW.out
  obtain ⟨c0, c1, c2, c3, c4, c5, c6⟩ := hc
  clear hp
  unfold Ht.v at hcall
  generalize hy : L.getD kk default = y at *
  have B : Aside (L.getD kk default = y) := hy
  clear hy
  cases hq : q y with
  | true =>
   rw [hq] at hcall
   go_wp2_with fail
   refine hcall.mono ?_; rintro e w' ⟨rfl, hb'⟩
   go_wp2_with fail
   go_ret
   refine ⟨?_, BW.out.trans hb' (by simp)⟩
   rw [first_hit (by have := HL.out; omega) (by rw [B.out]; exact hq) HA.out]; rfl
  | false =>
   rw [hq] at hcall
   go_wp2_with fail
   refine hcall.mono ?_; rintro e w' ⟨rfl, hb'⟩
   go_wp2_with fail
   go_roundg (n - (kk + 1))
   case measure => omega
   refine ⟨kk + 1, by omega, by omega, by go_num, (show Aside _ from BW.out.trans hb' (by simp)), (show Aside _ from fun j hj => ?_)⟩
   by_cases e : j = kk
   ·subst e
    rw [B.out]; exact hq
   exact HA.out j (by omega)
 have hltz : ¬ (kk : Int) < (n : Int) := by omega
 have : kk = n := by omega
 subst this
 go_wp2
 go_ret
 refine ⟨?_, BW.out⟩
 rw [first_miss (fun j hj => HA.out j (by have := HL.out; omega))]; rfl
theorem erase_enc {M : List Ht} {i : Nat} (_hi : i < M.length) : encH (M.eraseIdx i) = encH (M.take i) ++ encH (M.drop (i + 1)) := by
 rw [List.eraseIdx_eq_take_drop_succ, encH_app]
theorem delete_cells {M : List Ht} {tl xs : List Value} {i : Nat} (hi : i < M.length) (hx : xs.length = 7) :
  ∃ tl', setV (setV (encH M ++ tl) (i * 7) (encH (M.drop (i + 1)))) ((M.length - 1) * 7) xs = encH (M.eraseIdx i) ++ tl' ∧ tl'.length = 7 + tl.length := by
 have l1 : (encH (M.take i)).length = i * 7 := by rw [encH_len]; simp; omega
 have l2 : (encH (M.drop (i + 1))).length = (M.length - (i + 1)) * 7 := by rw [encH_len]; simp
 have l3 : (encH (M.eraseIdx i)).length = (M.length - 1) * 7 := by rw [encH_len, List.length_eraseIdx_of_lt hi]
 have e1 : (encH M ++ tl).take (i * 7) = encH (M.take i) := by
  have e : encH M = encH (M.take i) ++ encH (M.drop i) := by rw [← encH_app, List.take_append_drop]
  rw [e, List.append_assoc, List.take_append_of_le_length (by omega), List.take_of_length_le (by omega)]
 have lt : (encH M ++ tl).length = M.length * 7 + tl.length := by simp [encH_len]
 generalize hX : (encH M ++ tl).drop (i * 7 + (encH (M.drop (i + 1))).length) = X
 have lX : X.length = 7 + tl.length := by rw [← hX, List.length_drop, lt, l2]; omega
 have e2 : setV (encH M ++ tl) (i * 7) (encH (M.drop (i + 1))) = encH (M.eraseIdx i) ++ X := by
  unfold setV
  rw [e1, hX, erase_enc hi]
 rw [e2]
 refine ⟨xs ++ X.drop 7, ?_, by simp [hx, lX]⟩
 unfold setV
 rw [List.take_append_of_le_length (by omega), List.take_of_length_le (by omega), hx]
 rw [List.drop_append, l3, List.drop_of_length_le (by omega), List.nil_append, show (M.length - 1) * 7 + 7 - (M.length - 1) * 7 = 7 by omega, List.append_assoc]
set_option maxHeartbeats 4000000 in
set_option maxRecDepth 100000 in
theorem delete_any (g c i : Nat) (M : List Ht) (tl : List Value) (w : World) (h : RowH w g M tl) (hi : i < M.length) (hc : M.length ≤ c) (hm : c ≤ 9223372036854775807) (ht : M.length * 7 + tl.length = c * 7) :
  Calls Tryz.prog 133 #[.slice (some ⟨g, 0, none⟩) M.length c, .int .i64 i, .int .i64 (i + 1)] w fun e w' =>
   e = .returned (.slice (some ⟨g, 0, none⟩) (M.length - 1) c) ∧ Chg [g] w w' ∧ OwnH w' (.slice (some ⟨g, 0, none⟩) (M.length - 1) c) (M.eraseIdx i) := by
 obtain ⟨i0, hi0, hz0, hz1, hz2⟩ := info_parts info_H
 have hlt := h.lt
 obtain ⟨news, hnews⟩ : ∃ news, news = encH (M.drop (i + 1)) := ⟨_, rfl⟩
 have hlen : news.length = (M.length - (i + 1)) * 7 := by rw [hnews, encH_len]; simp
 have hcell : ∀ k : Nat, k < M.length * 7 → (w.drew.cell? ⟨g, k, none⟩).isSome = true := fun k hk => by
  rw [Blk.cell (t := 94) (Blk.drew h), qA, List.getElem?_append_left (by rw [encH_len]; omega), List.getElem?_eq_getElem (by rw [encH_len]; omega)]; rfl
 obtain ⟨A, hA, hsrc⟩ : ∃ A : Addr, (if c = i + 1 then some (⟨g, 0, none⟩ : Addr) else some ⟨g, (i + 1) * 7, none⟩) = some A ∧ Hid (∀ t u, news[t]? = some u → w.drew.cell? (A.add t) = some u) := by
  by_cases e : c = i + 1
  ·refine ⟨⟨g, 0, none⟩, by simp [e], fun t u hu => ?_⟩
   have h0 : news.length = 0 := by rw [hlen]; omega
   rw [List.length_eq_zero_iff.1 h0] at hu
   simp at hu
  refine ⟨⟨g, (i + 1) * 7, none⟩, by simp [e], fun t u hu => ?_⟩
  have hT : t < (M.length - (i + 1)) * 7 := by
   have := (List.getElem?_eq_some_iff.1 hu).1
   rwa [hlen] at this
  have e : encH M = encH (M.take (i + 1)) ++ encH (M.drop (i + 1)) := by rw [← encH_app, List.take_append_drop]
  have l1 : (encH (M.take (i + 1))).length = (i + 1) * 7 := by rw [encH_len]; simp; omega
  rw [add_at, Blk.cell (t := 94) (Blk.drew h), qA, e, List.append_assoc, List.getElem?_append_right (by omega), List.getElem?_append_left (by rw [← hnews, hlen, l1]; omega), l1, ← hnews, ← hu]
  congr 1; omega
 have s1 : Hid (news.length = (M.length - (i + 1)) * 7) := hlen
 have s2 : Hid (∀ u ∈ news, u.oneCell' = true) := by rw [hnews]; exact encH_oneCell _
 have s3 : Hid (∀ t, t < news.length → (w.drew.cell? ⟨g, 0 + i * 7 + t, none⟩).isSome = true ∧ w.drew.frozen? ⟨g, 0 + i * 7 + t, none⟩ = false) := fun t hT => by
  rw [hlen] at hT
  exact ⟨hcell _ (by omega), h.frozen _⟩
 obtain ⟨W1, hW1⟩ : ∃ W1, W1 = w.drew.setCells g (0 + i * 7) news := ⟨_, rfl⟩
 have hB1 : Blk W1 g 94 (setV (encH M ++ tl) (i * 7) news).toArray := by
  rw [hW1, Nat.zero_add]
  exact setCells_V _ _ _ _ (Blk.drew h) (by simp [encH_len, hlen]; omega)
 have hC1 : Chg [g] w W1 := by rw [hW1]; exact Chg.setCells (by simp) _ _ _ (Chg.refl _ _).drew
 have lV : (setV (encH M ++ tl) (i * 7) news).length = M.length * 7 + tl.length := by
  rw [setV_len (by simp [encH_len, hlen]; omega)]; simp [encH_len]
 obtain ⟨xs, hx, hcl⟩ : ∃ xs : List Value, xs.length = 7 ∧ ∀ ty, (Builtin.clear_ #[59] ty #[.slice (some ⟨g, (i + (M.length - (i + 1))) * 7, none⟩) (M.length - (i + (M.length - (i + 1)))) (c - (i + (M.length - (i + 1))))]).run Tryz.prog W1 = .ok (.tuple #[]) (W1.setCells g ((i + (M.length - (i + 1))) * 7) xs) := by
  have e1 : M.length - (i + (M.length - (i + 1))) = 1 := by omega
  rw [e1]
  exact run_clear_H W1 g ((i + (M.length - (i + 1))) * 7) 1 (c - (i + (M.length - (i + 1)))) (by decide)
   (fun j hj => by rw [hB1.cell, qA, List.getElem?_eq_getElem (by rw [lV]; omega)]; rfl) (fun j _ => hB1.frozen _)
 have hW : Hid (W1 = w.drew.setCells g (0 + i * 7) news) := hW1
 have HB := Lib.hid hB1
 have HX := Lib.hid hnews
 have HC := Lib.hid hC1
 have hic : i ≤ c := by omega
 have hp0 : (0 : Int) ≤ (i : Int) + 1 := by omega
 have hp2 : ((i : Int) + 1).toNat = i + 1 := by omega
 have hp3 : ((i : Int) == (i : Int) + 1) = false := by simp; omega
 generalize hn : M.length = n at *
 have HN := Lib.hid hn
 clear hn hW1 hB1 hC1 hnews hlen hcell lV h
 have hp1 : (i : Int) + 1 ≤ (n : Int) := by omega
 go_enter Tryz.func133, Tryz.ntmps133
 go_wp2_with fail
 go_region_law (refine step_append_room rfl (.tmp 22) (.tmp 25) 59 rfl 94 i0 7 Tryz.underlying59 hi0 hz1 g 0 i c (by simp [Act.eval, Act.put]) A (n - (i + 1)) (c - (i + 1)) news (by simp [Act.eval, Act.put]) s1.out hsrc.out s2.out (by omega) s3.out ?_; rw [← hW.out])
 go_wp2
 go_ret
 have hn := HN.out
 subst hn
 have e1 : i + (M.length - (i + 1)) = M.length - 1 := by omega
 have hB2 := setCells_V xs ((i + (M.length - (i + 1))) * 7) _ _ HB.out (by rw [setV_len (by simp [encH_len, s1.out]; omega)]; simp [encH_len]; omega)
 rw [e1] at hB2 ⊢
 rw [HX.out] at hB2
 obtain ⟨tl', ee, hl'⟩ := delete_cells (tl := tl) (xs := xs) hi hx
 rw [ee] at hB2
 refine ⟨rfl, Chg.setCells (by simp) _ _ _ HC.out, ?_⟩
 have hle : (M.eraseIdx i).length = M.length - 1 := List.length_eraseIdx_of_lt hi
 have := RowH.own_all (M := M.eraseIdx i) (tl := tl') hB2 c (by rw [hle, hl']; omega) hm
 rwa [hle] at this
theorem wpList_append_own_H {ops : Array Oper} {w : World} {rest : List Oper} {o : Oper} {a : Act} {Q : Exit → Act → World → Prop} (hgd : o.guard = none) (s x : Operand)
  (ho : o.op = .call { callee := .builtin .append, args := #[s, x], argTypes := #[59, 59] })
  (v : Value) (L : List Ht) (hv : a.eval s = v) (hown : OwnH w v L) (A : Option Addr) (m c : Nat) (N : List Ht) (hx : a.eval x = .slice A m c) (hs : Src w 7 A m c (encH N)) (hm : N.length = m)
  (hlen : L.length + m ≤ 1000000)
  (h : ∀ v' w', OwnH w' v' (L ++ N) → Chg v.ownBlock.toList w w' → (v'.ownBlock = v.ownBlock ∨ v'.ownBlock = some w.heap.size) → wpList Tryz.prog ops Q rest (a.put o.dst v') w') : wpList Tryz.prog ops Q (o :: rest) a w := by
 obtain ⟨i0, hi0, hz0, hz1, hz2⟩ := info_parts info_H
 refine wpList_append_src hgd s x 59 ho 0 94 i0 _ 7 32 Tryz.underlying59 hi0 hz0 hz1 hz2 rfl (by decide) v L.length (encH L) hv hown A m c (encH N) hx hs (by simp [maxLen]; omega) (by omega) (Nat.zero_le _) ?_
 intro v' w' h1 h2 h3
 refine h v' w' ?_ h2 h3
 unfold OwnH
 rw [List.length_append, hm, encH_app]
 exact h1
set_option maxHeartbeats 1000000 in
theorem clone_any (A : Option Addr) (n c : Nat) (L : List Ht) (w : World) (hl : SlH w A n L) (hA : A = none → n = 0 ∧ c = 0) (hn : n ≤ 100000) :
  Calls Tryz.prog 67 #[.slice A n c] w fun e w' => ∃ v', e = .returned v' ∧ Chg [] w w' ∧ OwnH w' v' L ∧ ∀ g ∈ v'.ownBlock.toList, w.heap.size ≤ g := by
 have q22 : ∀ (w : World) (a : Option Addr) (n c n' c' : Nat), (binOp .eql 59 (.slice a n c) (.slice none n' c')).run Tryz.prog w = .ok (.bool a.isNone) w := fun w a n c n' c' => Lib.run_eql_slice_nil w _ _ a n c n' c' Tryz.underlying59
 have hlen := hl.len
 cases A with
 | none =>
  obtain ⟨rfl, rfl⟩ := hA rfl
  obtain rfl : L = [] := List.eq_nil_of_length_eq_zero hlen
  clear hl hA hn hlen
  go_enter Tryz.func67, Tryz.ntmps67
  go_wp2
  go_ret
  exact ⟨_, rfl, Chg.refl _ _, OwnH.none_ _, by simp [Value.ownBlock]⟩
 | some a =>
  have hsrc := hl.src (c := c) hA
  have HL := Lib.hid hlen
  clear hlen hA hl
  have hmade : OwnH (w.alloc (.cells #[] 94)) (.slice (some ⟨w.heap.size, 0, none⟩) 0 0) [] := World.ownsRow_made w #[] 0 (Nat.zero_le _) (Nat.zero_le _) (by simp)
  have hsrc1 : Src (w.alloc (.cells #[] 94)) 7 (some a) n c (encH L) := ⟨hsrc.len, hsrc.one, hsrc.none_, fun a' ha j u hu => Lib.cell?_alloc_some _ (hsrc.at_ a' ha j u hu)⟩
  go_enter Tryz.func67, Tryz.ntmps67
  go_wp2_with (at_builtin; refine wpList_append_own_H rfl _ _ rfl _ [] rfl hmade (some a) n c L rfl hsrc1 HL.out (by simp; omega) ?_)
  intro v' w1 hown hch hb
  go_wp2
  go_ret
  have hc0 : Chg [] w (w.alloc (.cells #[] 94)) := (Chg.refl _ _).alloc _
  refine ⟨v', rfl, hc0.trans hch (by intro i hi hm; simp [Value.ownBlock] at hm; omega), by simpa using hown, fun g hg => ?_⟩
  rcases hb with e | e
  ·rw [e] at hg; simp [Value.ownBlock] at hg; omega
  rw [e] at hg; simp at hg; omega
theorem getD_lt {L : List Ht} {k : Nat} (h : k < L.length) : L.getD k default = L[k] := by simp [List.getD_eq_getElem?_getD, List.getElem?_eq_getElem h]
end Go.Proofs.YtgjfidjhbkaobaaGreat
namespace Go.Proofs.YtgjfidjhbkaobaaGreat
open Go.RowKit Go.Shelf
def KeyN (L : List Ht) : Prop := L.Pairwise fun x y => y.isK x.a x.p = false
theorem isK_iff (h : Ht) (a p : Int) : h.isK a p = true ↔ h.a = a ∧ h.p = p := by simp [Ht.isK]
def dropT (L : List Ht) (a p : Int) : List Ht := L.filter fun h => !h.isK a p
def hasT (L : List Ht) (a p : Int) : Bool := L.any fun h => h.isK a p
def cutT (most : Nat) (M : List Ht) : List Ht := if M.length = most then M.drop 1 else M
def putT (most : Nat) (L : List Ht) (h : Ht) : List Ht := cutT most (dropT L h.a h.p) ++ [h]
theorem KeyN.sub {L M : List Ht} (h : KeyN L) (hs : List.Sublist M L) : KeyN M := List.Pairwise.sublist hs h
theorem KeyN.dropT {L : List Ht} (h : KeyN L) (a p : Int) : KeyN (dropT L a p) := h.sub List.filter_sublist
theorem dropT_not (L : List Ht) (a p : Int) : ∀ x ∈ dropT L a p, x.isK a p = false := fun x hx => by
 unfold Go.Proofs.YtgjfidjhbkaobaaGreat.dropT at hx
 rw [List.mem_filter] at hx
 simpa using hx.2
theorem cutT_sub (most : Nat) (M : List Ht) : List.Sublist (cutT most M) M := by
 unfold cutT; split
 ·exact List.drop_sublist _ _
 exact List.Sublist.refl _
theorem KeyN.putT {most : Nat} {L : List Ht} (h : KeyN L) (x : Ht) : KeyN (putT most L x) := by
 unfold Go.Proofs.YtgjfidjhbkaobaaGreat.putT KeyN
 rw [List.pairwise_append]
 refine ⟨(h.dropT x.a x.p).sub (cutT_sub _ _), by simp, fun y hy z hz => ?_⟩
 simp at hz; subst hz
 have := dropT_not L z.a z.p y ((cutT_sub most _).subset hy)
 rw [Bool.eq_false_iff, Ne, isK_iff] at this ⊢
 exact fun e => this ⟨e.1.symm, e.2.symm⟩
theorem erase_key {L : List Ht} {a p : Int} {k : Nat} (h : KeyN L) (hk : k < L.length) (hx : (L.getD k default).isK a p = true) : L.eraseIdx k = dropT L a p := by
 have e : L = L.take k ++ (L.getD k default :: L.drop (k + 1)) := by
  rw [getD_lt hk, List.getElem_cons_drop, List.take_append_drop]
 rw [List.eraseIdx_eq_take_drop_succ]
 generalize L.getD k default = x at *
 unfold KeyN at h
 rw [e, List.pairwise_append, List.pairwise_cons] at h
 obtain ⟨_, ⟨h2, _⟩, h3⟩ := h
 rw [isK_iff] at hx
 unfold Go.Proofs.YtgjfidjhbkaobaaGreat.dropT
 conv => rhs; rw [e, List.filter_append, List.filter_cons]
 rw [if_neg (by simp [Ht.isK, hx])]
 have f1 : (L.take k).filter (fun h => !h.isK a p) = L.take k := by
  rw [List.filter_eq_self]
  intro y hy
  have := h3 y hy x (by simp)
  rw [Bool.eq_false_iff, Ne, isK_iff] at this
  rw [Bool.not_eq_true', Bool.eq_false_iff, Ne, isK_iff]
  exact fun e => this ⟨by rw [hx.1, e.1], by rw [hx.2, e.2]⟩
 have f2 : (L.drop (k + 1)).filter (fun h => !h.isK a p) = L.drop (k + 1) := by
  rw [List.filter_eq_self]
  intro y hy
  have := h2 y hy
  rw [Bool.eq_false_iff, Ne, isK_iff] at this
  rw [Bool.not_eq_true', Bool.eq_false_iff, Ne, isK_iff]
  exact fun e => this ⟨by rw [hx.1, e.1], by rw [hx.2, e.2]⟩
 rw [f1, f2]
theorem first_cases (q : Ht → Bool) (L : List Ht) : (firstI q L = -1 ∧ (∀ h ∈ L, q h = false)) ∨ ∃ k, k < L.length ∧ firstI q L = (k : Int) ∧ q (L.getD k default) = true ∧ ∀ j, j < k → q (L.getD j default) = false := by
 by_cases hall : ∀ j, j < L.length → q (L.getD j default) = false
 ·refine .inl ⟨first_miss hall, fun h hh => ?_⟩
  obtain ⟨j, hj, rfl⟩ := List.getElem_of_mem hh
  have := hall j hj
  rwa [getD_lt hj] at this
 have : ∃ k, k < L.length ∧ q (L.getD k default) = true := by
  refine Classical.byContradiction fun hne => hall fun j hj => ?_
  cases hx : q (L.getD j default) with
  | false => rfl
  | true => exact absurd ⟨j, hj, hx⟩ hne
 obtain ⟨k, ⟨hk1, hk2⟩, hleast⟩ := exists_least this
 have hmin : ∀ j, j < k → q (L.getD j default) = false := fun j hj => by
  cases hx : q (L.getD j default) with
  | false => rfl
  | true => exact absurd (hleast j ⟨by omega, hx⟩) (by omega)
 exact .inr ⟨k, hk1, first_hit hk1 hk2 hmin, hk2, hmin⟩
structure TIn (w : World) (p most : Nat) (v : Value) (L : List Ht) : Prop where
 st : Blk w p 104 #[.int .i64 most, v]
 ow : OwnH w v L
 le : L.length ≤ most
 lo : 1 ≤ most
 hi : most ≤ 512
 nd : KeyN L
def TAt (w : World) (S : List Nat) (p most : Nat) (L : List Ht) : Prop := ∃ v, TIn w p most v L ∧ S = p :: v.ownBlock.toList
section
variable {w w' : World} {S T : List Nat} {p most : Nat} {v : Value} {L : List Ht}
theorem TIn.ne (h : TIn w p most v L) : ∀ g ∈ v.ownBlock.toList, g ≠ p := fun g hg => by
 obtain ⟨cur, hb⟩ := h.ow.blk hg
 exact hb.type_ne h.st (by decide)
theorem TIn.chg (h : TIn w p most v L) (hc : Chg T w w') (hp : p ∉ T) (hg : ∀ g ∈ v.ownBlock.toList, g ∉ T) : TIn w' p most v L :=
 ⟨hc.blk h.st hp, h.ow.chg hc hg, h.le, h.lo, h.hi, h.nd⟩
theorem TIn.c (h : TIn w p most v L) : w.cell? ⟨p, 0, none⟩ = some (.int .i64 most) ∧ w.cell? ⟨p, 1, none⟩ = some v := by
 have h0 := h.st.cell 0; have h1 := h.st.cell 1
 simp only [qA, qS, qZ] at h0 h1
 exact ⟨h0, h1⟩
theorem TAt.chg (h : TAt w S p most L) (hc : Chg T w w') (hd : ∀ i ∈ S, i ∉ T) : TAt w' S p most L := by
 obtain ⟨v, h, rfl⟩ := h
 exact ⟨v, h.chg hc (hd p (by simp)) (fun g hg => hd g (by simp only [List.mem_cons]; exact .inr hg)), rfl⟩
theorem TAt.self (h : TAt w S p most L) (hc : Chg [] w w') : TAt w' S p most L := h.chg hc (by simp)
theorem TAt.lt (h : TAt w S p most L) : ∀ i ∈ S, i < w.heap.size := by
 obtain ⟨v, h, rfl⟩ := h
 intro i hi
 simp only [List.mem_cons] at hi
 rcases hi with rfl | hi
 ·exact h.st.lt
 exact h.ow.lt i hi
theorem TAt.nd (h : TAt w S p most L) : KeyN L := by obtain ⟨v, h, rfl⟩ := h; exact h.nd
end
set_option maxHeartbeats 400000 in
theorem TNew_in (n : Nat) (w : World) (h1 : 1 ≤ n) (h2 : n ≤ 512) :
  Calls Tryz.prog 37 #[.int .i64 n] w fun e w' => e = .returned (.pointer (some ⟨w.heap.size, 0, none⟩)) ∧ Chg [] w w' ∧ TAt w' [w.heap.size] w.heap.size n [] := by
 have e1 : ¬ (n : Int) < 1 := by omega
 have e2 : ¬ (n : Int) > 512 := by omega
 go_enter Tryz.func37, Tryz.ntmps37
 go_wp2
 all_goals go_ret
 all_goals exact ⟨rfl, (Chg.refl _ _).alloc _, .slice none 0 0, ⟨Blk.new w 104 #[.int .i64 n, .slice none 0 0], OwnH.none_ _, by simp, h1, h2, List.Pairwise.nil⟩, rfl⟩
set_option maxHeartbeats 400000 in
theorem TAll_at (S : List Nat) (p most : Nat) (L : List Ht) (w : World) (h : TAt w S p most L) :
  Calls Tryz.prog 84 #[.pointer (some ⟨p, 0, none⟩)] w fun e w' => ∃ S', e = .returned (.tuple #[]) ∧ Chg S w w' ∧ TAt w' S' p most [] ∧ Grew w S S' := by
 obtain ⟨v, h, rfl⟩ := h
 obtain ⟨c0, c1⟩ := h.c
 have f1 := h.st.frozen 1
 go_enter Tryz.func84, Tryz.ntmps84
 go_wp2
 go_end0
 refine ⟨[p], rfl, (Chg.refl _ _).setCell (by simp) _, ⟨.slice none 0 0, ⟨?_, OwnH.none_ _, by simp, h.lo, h.hi, List.Pairwise.nil⟩, rfl⟩, fun i hi => .inl (by simp at hi; subst hi; simp)⟩
 exact h.st.set_ 1 _
set_option maxHeartbeats 1000000 in
theorem place_at (p most : Nat) (v : Value) (L : List Ht) (a pg : Int) (w : World) (h : TIn w p most v L) :
  Calls Tryz.prog 132 #[.pointer (some ⟨p, 0, none⟩), .agg #[.int .i64 a, .int .i64 pg]] w fun e w' => e = .returned (.int .i64 (firstI (fun h => h.isK a pg) L)) ∧ Chg [] w w' := by
 obtain ⟨c0, c1⟩ := h.c
 obtain ⟨A, c, rfl, _, _⟩ := h.ow.form
 have hlt := h.st.lt
 have hp : p ≠ w.heap.size := Nat.ne_of_lt hlt
 have hkb := Blk.new w 176 #[.int .i64 a, .int .i64 pg]
 have hc0 : Chg [] w (w.alloc (.cells #[.int .i64 a, .int .i64 pg] 176)) := (Chg.refl [] w).alloc _
 have eg : ∀ args w, (callFunc 150 args).run Tryz.prog w = .ok (.enter 150 args) w := enters_of Tryz.func150 (by kernel_rfl) rfl
 have hI := indexFunc_any (fun h => h.isK a pg) 150 w.heap.size eg A L.length c L (w.alloc (.cells #[.int .i64 a, .int .i64 pg] 176))
  (fun x W hc => placeP_any x w.heap.size a pg W (hc.blk hkb (by simp))) (h.ow.slh.new hc0)
 clear h hkb eg
 generalize firstI (fun h => h.isK a pg) L = r at *
 go_enter Tryz.func132, Tryz.ntmps132
 go_wp2_with fail
 refine hI.mono ?_; rintro e w' ⟨rfl, hc1⟩
 go_wp2_with fail
 go_ret
 exact ⟨rfl, hc0.trans hc1 (by simp)⟩
set_option maxHeartbeats 1000000 in
theorem remove_at (p most : Nat) (v : Value) (L : List Ht) (i : Nat) (w : World) (h : TIn w p most v L) (hi : i < L.length) :
  Calls Tryz.prog 96 #[.pointer (some ⟨p, 0, none⟩), .int .i64 i] w fun e w' => e = .returned (.tuple #[]) ∧ Chg (p :: v.ownBlock.toList) w w' ∧ ∃ v', TIn w' p most v' (L.eraseIdx i) ∧ v'.ownBlock = v.ownBlock := by
 obtain ⟨c0, c1⟩ := h.c
 have hne := h.ne
 obtain ⟨g, c, rfl⟩ := h.ow.pos_ (by omega)
 obtain ⟨tl, hr, _, hc1, hc2, hc3⟩ := h.ow.row
 have hD := delete_any g c i L tl w hr hi hc1 hc2 hc3
 have hgp : p ≠ g := fun e => hne g (by simp [Value.ownBlock]) e.symm
 have hst := h.st
 have hle := h.le; have hlo := h.lo; have hhi := h.hi
 have hN := h.nd
 have HE := Lib.hid (show (L.eraseIdx i).length = L.length - 1 from List.length_eraseIdx_of_lt hi)
 have hw64 : IntKind.i64.wrap ((i : Int) + 1) = (i : Int) + 1 := by rw [IntKind.wrap_i64]; omega
 clear h hr hc3 hne
 have HL : Hid (L.length ≤ most) := hle
 generalize hn : L.length = n at *
 have HN := Lib.hid hn
 clear hn
 go_enter Tryz.func96, Tryz.ntmps96
 go_wp2_with fail
 refine hD.mono ?_; rintro e w1 ⟨rfl, hch, ho⟩
 have hst1 := hch.blk hst (by simpa using hgp)
 have f1 := hst1.frozen 1
 have d1 := hst1.cell 1
 simp only [qA, qS, qZ] at d1
 go_wp2_with fail
 go_end0
 have hcl : Chg [p] w1 (w1.setCell ⟨p, 1, none⟩ (.slice (some ⟨g, 0, none⟩) (n - 1) c)) := (Chg.refl _ _).setCell (by simp) _
 refine ⟨rfl, (hch.weak (by intro k _ hk; simp at hk; subst hk; simp [Value.ownBlock])).trans hcl (by intro k _ hk; simp at hk; subst hk; simp), .slice (some ⟨g, 0, none⟩) (n - 1) c, ⟨hst1.set_ 1 _, ho.chg hcl (by simp [Value.ownBlock]; exact fun e => hgp e.symm), by rw [HE.out]; omega, hlo, hhi, hN.sub (List.eraseIdx_sublist _ _)⟩, rfl⟩
def BlkH (w : World) (g : Nat) (h : Ht) : Prop := Blk w g 94 #[.int .i64 h.a, .int .i64 h.p, .int .i64 h.f, .bool h.w, .bool h.u, .bool h.x, .bool h.d]
theorem BlkH.cells {w : World} {g : Nat} {h : Ht} (H : BlkH w g h) : w.cell? ⟨g, 0, none⟩ = some (.int .i64 h.a) ∧ w.cell? ⟨g, 1, none⟩ = some (.int .i64 h.p) ∧ w.cell? ⟨g, 2, none⟩ = some (.int .i64 h.f) ∧ w.cell? ⟨g, 3, none⟩ = some (.bool h.w) ∧ w.cell? ⟨g, 4, none⟩ = some (.bool h.u) ∧ w.cell? ⟨g, 5, none⟩ = some (.bool h.x) ∧ w.cell? ⟨g, 6, none⟩ = some (.bool h.d) :=
 ⟨Blk.cell (t := 94) H 0, Blk.cell (t := 94) H 1, Blk.cell (t := 94) H 2, Blk.cell (t := 94) H 3, Blk.cell (t := 94) H 4, Blk.cell (t := 94) H 5, Blk.cell (t := 94) H 6⟩
theorem BlkH.chg {S : List Nat} {w w' : World} {g : Nat} {h : Ht} (H : BlkH w g h) (hc : Chg S w w') (hn : g ∉ S) : BlkH w' g h := hc.blk (t := 94) H hn
theorem BlkH.lt {w : World} {g : Nat} {h : Ht} (H : BlkH w g h) : g < w.heap.size := Blk.lt (t := 94) H
theorem BlkH.new (w : World) (h : Ht) : BlkH (w.alloc (.cells #[.int .i64 h.a, .int .i64 h.p, .int .i64 h.f, .bool h.w, .bool h.u, .bool h.x, .bool h.d] 94)) w.heap.size h := Blk.new _ _ _
theorem BlkH.src {w : World} {g : Nat} {h : Ht} (H : BlkH w g h) : Src w 7 (some ⟨g, 0, none⟩) 1 1 (encH [h]) :=
 ⟨by simp [encH_len], encH_oneCell _, by simp, fun a ha j u hu => by
  injection ha with ha; subst ha
  rw [add_at, Blk.cell (t := 94) H]
  rw [encH_one] at hu
  simpa [Ht.cl] using hu⟩
set_option maxHeartbeats 1000000 in
theorem TDrop_at (S : List Nat) (p most : Nat) (L : List Ht) (a pg : Int) (w : World) (h : TAt w S p most L) :
  Calls Tryz.prog 95 #[.pointer (some ⟨p, 0, none⟩), .int .i64 a, .int .i64 pg] w fun e w' => e = .returned (.bool (hasT L a pg)) ∧ Chg S w w' ∧ TAt w' S p most (dropT L a pg) := by
 obtain ⟨v, h, rfl⟩ := h
 have hP := place_at p most v L a pg w h
 rcases first_cases (fun h => h.isK a pg) L with ⟨e1, hall⟩ | ⟨k, hk, e1, hq, hmin⟩
 ·rw [e1] at hP
  have e2 : hasT L a pg = false := by
   unfold hasT
   rw [List.any_eq_false]
   intro x hx; rw [hall x hx]; simp
  have e3 : dropT L a pg = L := by
   unfold dropT
   rw [List.filter_eq_self]
   intro x hx; simp [hall x hx]
  rw [e2, e3]
  clear hall e1 e2 e3
  go_enter Tryz.func95, Tryz.ntmps95
  go_wp2_with fail
  refine hP.mono ?_; rintro e w1 ⟨rfl, hc1⟩
  go_wp2_with fail
  go_ret
  exact ⟨rfl, hc1.weak (by simp), v, h.chg hc1 (by simp) (by simp), rfl⟩
 rw [e1] at hP
 have e2 : hasT L a pg = true := by
  unfold hasT
  rw [List.any_eq_true]
  exact ⟨_, List.getElem_mem hk, by rw [← getD_lt hk]; exact hq⟩
 rw [e2, ← erase_key h.nd hk hq]
 clear hq hmin e1 e2
 have hk0 : ¬ (k : Int) < 0 := by omega
 go_enter Tryz.func95, Tryz.ntmps95
 go_wp2_with fail
 refine hP.mono ?_; rintro e w1 ⟨rfl, hc1⟩
 go_wp2_with fail
 refine (remove_at p most v L k w1 (h.chg hc1 (by simp) (by simp)) hk).mono ?_; rintro e w2 ⟨rfl, hc2, v', h2, hv⟩
 go_wp2_with fail
 go_ret
 exact ⟨rfl, (hc1.weak (by simp)).trans hc2 (by simp), v', h2, by rw [hv]⟩
set_option maxHeartbeats 1000000 in
theorem TList_at (S : List Nat) (p most : Nat) (L : List Ht) (w : World) (h : TAt w S p most L) :
  Calls Tryz.prog 18 #[.pointer (some ⟨p, 0, none⟩)] w fun e w' => ∃ v, e = .returned v ∧ Chg [] w w' ∧ OwnH w' v L ∧ ∀ g ∈ v.ownBlock.toList, w.heap.size ≤ g := by
 obtain ⟨v, h, rfl⟩ := h
 obtain ⟨c0, c1⟩ := h.c
 obtain ⟨A, c, rfl, hA, _⟩ := h.ow.form
 have hC := clone_any A L.length c L w h.ow.slh hA (by have := h.le; have := h.hi; omega)
 clear h hA
 go_enter Tryz.func18, Tryz.ntmps18
 go_wp2_with fail
 refine hC.mono ?_; rintro e w1 ⟨v', rfl, hc1, h1, hg⟩
 obtain ⟨A', c', rfl, _, _⟩ := h1.form
 go_wp2_with fail
 go_ret
 exact ⟨_, rfl, hc1, h1, hg⟩
theorem put_own {v5 v3 : Value} {w4 : World} {p : Nat} (h : v5.ownBlock = v3.ownBlock ∨ v5.ownBlock = some w4.heap.size) (hp : p < w4.heap.size) (hn : p ∉ v3.ownBlock.toList) : p ∉ v5.ownBlock.toList := by
 rcases h with e | e
 ·rw [e]; exact hn
 rw [e]; simp; omega
theorem put_chg {S T : List Nat} {w w3 w4 w5 w6 : World} {p : Nat} (h1 : Chg S w w3) (h2 : Chg [] w3 w4) (h3 : Chg T w4 w5) (h4 : Chg [p] w5 w6) (hT : ∀ i ∈ T, i ∈ S) (hp : p ∈ S) : Chg S w w6 :=
 (((h1.trans h2 (by simp)).trans h3 (fun i _ hi => hT i hi)).trans h4 (by intro k _ hk; simp at hk; subst hk; exact hp))
theorem put_grew {w w3 w4 : World} {p : Nat} {v v3 v5 : Value} (h : v5.ownBlock = v3.ownBlock ∨ v5.ownBlock = some w4.heap.size) (h3 : v3.ownBlock = v.ownBlock) (hs : w3.heap.size ≤ w4.heap.size) (hs3 : w.heap.size ≤ w3.heap.size) : Grew w (p :: v.ownBlock.toList) (p :: v5.ownBlock.toList) := by
 intro i hi
 simp only [List.mem_cons] at hi
 rcases hi with rfl | hi
 ·exact .inl (by simp)
 rcases h with e | e
 ·rw [e, h3] at hi; exact .inl (List.mem_cons_of_mem _ hi)
 rw [e] at hi; simp at hi; exact .inr (by omega)
theorem step_append_H {ops : Array Oper} {o : Oper} {a : Act} {w : World} {K : Act → World → Prop} {Q : Exit → Act → World → Prop} {E : Prop} (d : Option Tmp) (hd : o.dst = d) (hgd : o.guard = none) (s x : Operand)
  (ho : o.op = .call { callee := .builtin .append, args := #[s, x], argTypes := #[59, 59] })
  (v : Value) (L : List Ht) (hv : a.eval s = v) (hown : OwnH w v L) (A : Option Addr) (m c : Nat) (N : List Ht) (hx : a.eval x = .slice A m c) (hs : Src w 7 A m c (encH N)) (hm : N.length = m) (hlen : L.length + m ≤ 1000000)
  (h : ∀ v' w', OwnH w' v' (L ++ N) → Chg v.ownBlock.toList w w' → (v'.ownBlock = v.ownBlock ∨ v'.ownBlock = some w.heap.size) → K (a.put d v') w') :
  if Region.wanted o (yielded ops a.tmps) = true then Oper.wp Tryz.prog o a w K Q else E := by
 obtain ⟨i0, hi0, hz0, hz1, hz2⟩ := info_parts info_H
 refine step_append_src hgd s x 59 ho 0 94 i0 _ 7 32 Tryz.underlying59 hi0 hz0 hz1 hz2 rfl (by decide) v L.length (encH L) hv hown A m c (encH N) hx hs (by simp [maxLen]; omega) (by omega) (Nat.zero_le _) (L ++ N).length (by simp [hm]) (encH (L ++ N)) (encH_app L N).symm ?_
 intro v' w' h1 h2 h3
 rw [hd]
 exact h v' w' h1 h2 h3
set_option maxRecDepth 100000 in
set_option maxHeartbeats 4000000 in
theorem TPut_at (S : List Nat) (p most : Nat) (L : List Ht) (h : Ht) (w : World) (hT : TAt w S p most L) :
  Calls Tryz.prog 52 #[.pointer (some ⟨p, 0, none⟩), h.v] w fun e w' => ∃ S', e = .returned (.tuple #[]) ∧ Chg S w w' ∧ TAt w' S' p most (putT most L h) ∧ Grew w S S' := by
 obtain ⟨i0, hi0, hz0, hz1, hz2⟩ := info_parts info_H
 have hbx0 := BlkH.new w h
 have hc0 : Chg [] w (w.alloc (.cells #[.int .i64 h.a, .int .i64 h.p, .int .i64 h.f, .bool h.w, .bool h.u, .bool h.x, .bool h.d] 94)) := (Chg.refl [] w).alloc _
 have hT0 := hT.self hc0
 have hSlt := hT.lt
 have hbS : w.heap.size ∉ S := fun hm => Nat.lt_irrefl _ (hSlt _ hm)
 have hD := TDrop_at S p most L h.a h.p _ hT0
 obtain ⟨b0, b1, b2, b3, b4, b5, b6⟩ := hbx0.cells
 have hKN : KeyN (cutT most (dropT L h.a h.p) ++ [h]) := hT.nd.putT h
 clear hT hT0
 unfold putT
 unfold Ht.v
 generalize dropT L h.a h.p = M at *
 generalize hasT L h.a h.p = t0 at *
 have HKN := Lib.hid hKN
 clear hKN
 obtain ⟨N, hNe⟩ : ∃ N, N = cutT most M := ⟨_, rfl⟩
 rw [← hNe]
 have HNE := Lib.hid hNe
 clear hNe
 go_enter Tryz.func52, Tryz.ntmps52
 go_wp2_with fail
 refine hD.mono ?_; rintro e w1 ⟨rfl, hc1, h1⟩
 have hbx1 := hbx0.chg hc1 hbS
 have hch1 := (hc0.weak (T := S) (by simp)).trans hc1 (fun _ _ h => h)
 clear b0 b1 b2 b3 b4 b5 b6 hbx0 hD hc1
 obtain ⟨v, h1, rfl⟩ := h1
 obtain ⟨d0, d1⟩ := h1.c
 have hMle := h1.le
 have hlo0 := h1.lo
 obtain ⟨A, c, rfl, _, _⟩ := h1.ow.form
 generalize hbxe : w.heap.size = bx at *
 have HBX := Lib.hid hbxe
 clear hbxe
 by_cases hfull : M.length = most
 ·have eN : M.eraseIdx 0 = N := by rw [HNE.out]; unfold cutT; rw [if_pos hfull]; simp
  have HND := Lib.hid (show KeyN (N ++ [h]) by rw [HNE.out]; exact HKN.out)
  have hR := fun w0 h0 => remove_at p most (.slice A M.length c) M 0 w0 h0 (by omega)
  have hNl : (M.eraseIdx 0).length + 1 ≤ most := by simp; omega
  have e1 : ((M.length : Int) == most) = true := by simp [hfull]
  rw [eN] at hNl hR
  have HNL := Lib.hid hNl
  clear eN hNl hfull
  generalize hml : M.length = ml at *
  have HML := Lib.hid hml
  clear hml
  go_wp2_with fail
  go_quiet (fail)
  have hq1 := h1.chg ((Chg.refl [] w1).drewN nq) (by simp) (by simp)
  have hR1 := hR _ hq1
  go_wp2_with fail
  refine hR1.mono ?_; rintro e w3 ⟨rfl, hc3, v3, h3, hv3⟩
  have hbx3 := (hbx1.chg ((Chg.refl [] w1).drewN nq) (by simp)).chg hc3 hbS
  have hch3 := (hch1.drewN nq).trans hc3 (fun _ _ h => h)
  have hbn : bx ∉ v3.ownBlock.toList := by rw [hv3]; exact fun hm => hbS (List.mem_cons_of_mem _ hm)
  go_wp2_with fail
  have hN3 := HNL.out
  clear hR hR1 hq1 h1 hbx1 hch1 d0 d1 e1 hc3
  have hbp : bx ≠ p := fun e => hbS (e ▸ List.mem_cons_self)
  have hpS : p ∈ p :: (Value.slice A ml c).ownBlock.toList := List.mem_cons_self
  obtain ⟨A3, c3, rfl, hA3, _⟩ := h3.ow.form
  have hst3 := h3.st
  have how3 := h3.ow
  obtain ⟨d0, d1⟩ := h3.c
  obtain ⟨b0, b1, b2, b3, b4, b5, b6⟩ := hbx3.cells
  have hne3 := h3.ne
  have hlt3 := h3.st.lt
  have hlo := h3.lo; have hhi := h3.hi
  have hn1 : N.length + 1 ≤ 1000000 := by omega
  have hA0 := (Chg.refl [] w3).drew.alloc (.cells #[.int .i64 h.a, .int .i64 h.p, .int .i64 h.f, .bool h.w, .bool h.u, .bool h.x, .bool h.d] 94)
  have hnb : BlkH (w3.drew.alloc (.cells #[.int .i64 h.a, .int .i64 h.p, .int .i64 h.f, .bool h.w, .bool h.u, .bool h.x, .bool h.d] 94)) w3.heap.size h := BlkH.new w3.drew h
  have how4 := how3.chg hA0 (by simp)
  have hst4 := hA0.blk hst3 (by simp)
  have hbx4 := hbx3.chg hA0 (by simp)
  have e4 := hst4.cell 1
  simp only [qA, qS, qZ] at e4
  obtain ⟨g0, g1, g2, g3, g4, g5, g6⟩ := hbx4.cells
  have hsrc := hnb.src
  clear hA3
  refine wp_region_noPanic ?_
  refine wp_region_held_drew (S := (fun w' => w'.cell? ⟨bx, 0, none⟩ = some (.int .i64 h.a) ∧ w'.cell? ⟨bx, 1, none⟩ = some (.int .i64 h.p) ∧ w'.cell? ⟨bx, 2, none⟩ = some (.int .i64 h.f) ∧ w'.cell? ⟨bx, 3, none⟩ = some (.bool h.w) ∧ w'.cell? ⟨bx, 4, none⟩ = some (.bool h.u) ∧ w'.cell? ⟨bx, 5, none⟩ = some (.bool h.x) ∧ w'.cell? ⟨bx, 6, none⟩ = some (.bool h.d))) (by kernel_rfl) ?_ (fun hHeld => ?_)
  ·exact ⟨b0, b1, b2, b3, b4, b5, b6⟩
  (refine tk 0 22 ?_ ?_ ?_; rotate_left; · (intro w hSw; (try dsimp only at hSw); go_simp; (try with_reducible rfl)))
  (try simp only [Act.put, qI, qO, qU])
  (refine tk 1 23 ?_ ?_ ?_; rotate_left; · (intro w hSw; (try dsimp only at hSw); go_simp; (try with_reducible rfl)))
  (try simp only [Act.put, qI, qO, qU])
  (refine tk 2 24 ?_ ?_ ?_; rotate_left; · (intro w hSw; (try dsimp only at hSw); go_simp; (try with_reducible rfl)))
  (try simp only [Act.put, qI, qO, qU])
  (refine tk 3 25 ?_ ?_ ?_; rotate_left; · (intro w hSw; (try dsimp only at hSw); go_simp; (try with_reducible rfl)))
  (try simp only [Act.put, qI, qO, qU])
  (refine tk 5 27 ?_ ?_ ?_; rotate_left; · (intro w hSw; (try dsimp only at hSw); go_simp; (try with_reducible rfl)))
  (try simp only [Act.put, qI, qO, qU])
  refine wpAnyH_ready (rs := [4, 6]) (by kernel_rfl) (by simp) ?_; refine AllReadyH.cons (o := _) rfl (fun K hK => ?_) (AllReadyH.cons (o := _) rfl (fun K hK => ?_) AllReadyH.nil)
  ·go_simp
   skip
   refine hK.out _ _ (by (try dsimp only); exact ⟨b0, b1, b2, b3, b4, b5, b6⟩) (fun hHeld => ?_)
   clear hK K
   (try simp only [Act.put, qI, qO, qU])
   refine rdy 6 fun K hK => ?_
   go_simp
   skip
   refine hK.out _ _ (by (try dsimp only); exact ⟨g0, g1, g2, g3, g4, g5, g6⟩) (fun hHeld => ?_)
   clear hK K
   (try simp only [Act.put, qI, qO, qU])
   refine rdy 7 fun K hK => ?_
   (refine step_append_H (some 29) rfl rfl (.tmp 26) (.tmp 28) rfl (.slice A3 N.length c3) N (by simp [Act.eval]) how4 (some ⟨w3.heap.size, 0, none⟩) 1 1 [h] (by simp [Act.eval]) hsrc rfl (by omega) ?_; intro v5 w5 hown5 hc5 hv5; have hst5 := hc5.blk hst4 (fun hm => hne3 p hm rfl); have hbx5 := hbx4.chg hc5 hbn; have e5 := hst5.cell 1; have k5 := hst5.frozen 1; simp only [qA, qS, qZ] at e5; obtain ⟨m0, m1, m2, m3, m4, m5, m6⟩ := hbx5.cells)
   refine hK.out _ _ (by (try dsimp only); exact ⟨m0, m1, m2, m3, m4, m5, m6⟩) (fun hHeld => ?_)
   clear hK K
   (try dsimp only)
   (try simp only [Act.put, qI, qO, qU])
   (refine tk 8 30 ?_ ?_ ?_; rotate_left; · (intro w hSw; (try dsimp only at hSw); go_simp; (try with_reducible rfl)))
   (try simp only [Act.put, qI, qO, qU])
   (refine tk 9 31 ?_ ?_ ?_; rotate_left; · (intro w hSw; (try dsimp only at hSw); go_simp; (try with_reducible rfl)))
   (try simp only [Act.put, qI, qO, qU])
   obtain ⟨A5, c5, rfl, _, _⟩ := hown5.form
   have hcl : Chg [p] w5 (w5.setCell ⟨p, 1, none⟩ (.slice A5 (N ++ [h]).length c5)) := (Chg.refl _ _).setCell (by simp) _
   have hbx6 := hbx5.chg hcl (by simpa using hbp)
   have hst6 := hst5.set_ 1 (.slice A5 (N ++ [h]).length c5)
   have how6 := hown5.chg hcl (by intro g hg hm; simp at hm; subst hm; exact put_own hv5 hst4.lt (fun hm => hne3 g hm rfl) hg)
   obtain ⟨y0, y1, y2, y3, y4, y5, y6⟩ := hbx6.cells
   have hN5 : (N ++ [h]).length ≤ most := by simp; omega
   have hL5 := Lib.hid (show TIn (w5.setCell ⟨p, 1, none⟩ (.slice A5 (N ++ [h]).length c5)) p most (.slice A5 (N ++ [h]).length c5) (N ++ [h]) from ⟨hst6, how6, hN5, hlo, hhi, HND.out⟩)
   have hC5 := Lib.hid (put_chg hch3 hA0 hc5 hcl (by rw [← hv3]; exact fun i hi => List.mem_cons_of_mem _ hi) hpS)
   have hG5 := Lib.hid (put_grew (p := p) hv5 hv3 hA0.size hch3.size)
   clear hst6 how6 hcl hN5 hown5 hst4 how4 hbx4 hnb hbx6
   generalize (N ++ [h]).length = n5 at *
   refine rdy 10 fun K hK => ?_
   go_simp
   skip
   refine hK.out _ _ (by (try dsimp only); exact ⟨y0, y1, y2, y3, y4, y5, y6⟩) (fun hHeld => ?_)
   clear hK K
   (try simp only [Act.put, qI, qO, qU])
   refine wpAnyH_done (by kernel_rfl) ?_ _
   refine NoPanic.normal ?_
   go_wp2_with fail
   go_end0
   have hml := HML.out
   subst hml
   exact ⟨_, rfl, hC5.out, ⟨_, hL5.out, rfl⟩, hG5.out⟩
  go_simp
  skip
  refine hK.out _ _ (by (try dsimp only); exact ⟨g0, g1, g2, g3, g4, g5, g6⟩) (fun hHeld => ?_)
  clear hK K
  (try simp only [Act.put, qI, qO, qU])
  refine rdy 4 fun K hK => ?_
  go_simp
  skip
  refine hK.out _ _ (by (try dsimp only); exact ⟨g0, g1, g2, g3, g4, g5, g6⟩) (fun hHeld => ?_)
  clear hK K
  (try simp only [Act.put, qI, qO, qU])
  refine rdy 7 fun K hK => ?_
  (refine step_append_H (some 29) rfl rfl (.tmp 26) (.tmp 28) rfl (.slice A3 N.length c3) N (by simp [Act.eval]) how4 (some ⟨w3.heap.size, 0, none⟩) 1 1 [h] (by simp [Act.eval]) hsrc rfl (by omega) ?_; intro v5 w5 hown5 hc5 hv5; have hst5 := hc5.blk hst4 (fun hm => hne3 p hm rfl); have hbx5 := hbx4.chg hc5 hbn; have e5 := hst5.cell 1; have k5 := hst5.frozen 1; simp only [qA, qS, qZ] at e5; obtain ⟨m0, m1, m2, m3, m4, m5, m6⟩ := hbx5.cells)
  refine hK.out _ _ (by (try dsimp only); exact ⟨m0, m1, m2, m3, m4, m5, m6⟩) (fun hHeld => ?_)
  clear hK K
  (try dsimp only)
  (try simp only [Act.put, qI, qO, qU])
  (refine tk 8 30 ?_ ?_ ?_; rotate_left; · (intro w hSw; (try dsimp only at hSw); go_simp; (try with_reducible rfl)))
  (try simp only [Act.put, qI, qO, qU])
  (refine tk 9 31 ?_ ?_ ?_; rotate_left; · (intro w hSw; (try dsimp only at hSw); go_simp; (try with_reducible rfl)))
  (try simp only [Act.put, qI, qO, qU])
  obtain ⟨A5, c5, rfl, _, _⟩ := hown5.form
  have hcl : Chg [p] w5 (w5.setCell ⟨p, 1, none⟩ (.slice A5 (N ++ [h]).length c5)) := (Chg.refl _ _).setCell (by simp) _
  have hbx6 := hbx5.chg hcl (by simpa using hbp)
  have hst6 := hst5.set_ 1 (.slice A5 (N ++ [h]).length c5)
  have how6 := hown5.chg hcl (by intro g hg hm; simp at hm; subst hm; exact put_own hv5 hst4.lt (fun hm => hne3 g hm rfl) hg)
  obtain ⟨y0, y1, y2, y3, y4, y5, y6⟩ := hbx6.cells
  have hN5 : (N ++ [h]).length ≤ most := by simp; omega
  have hL5 := Lib.hid (show TIn (w5.setCell ⟨p, 1, none⟩ (.slice A5 (N ++ [h]).length c5)) p most (.slice A5 (N ++ [h]).length c5) (N ++ [h]) from ⟨hst6, how6, hN5, hlo, hhi, HND.out⟩)
  have hC5 := Lib.hid (put_chg hch3 hA0 hc5 hcl (by rw [← hv3]; exact fun i hi => List.mem_cons_of_mem _ hi) hpS)
  have hG5 := Lib.hid (put_grew (p := p) hv5 hv3 hA0.size hch3.size)
  clear hst6 how6 hcl hN5 hown5 hst4 how4 hbx4 hnb hbx6
  generalize (N ++ [h]).length = n5 at *
  refine rdy 10 fun K hK => ?_
  go_simp
  skip
  refine hK.out _ _ (by (try dsimp only); exact ⟨y0, y1, y2, y3, y4, y5, y6⟩) (fun hHeld => ?_)
  clear hK K
  (try simp only [Act.put, qI, qO, qU])
  refine wpAnyH_done (by kernel_rfl) ?_ _
  refine NoPanic.normal ?_
  go_wp2_with fail
  go_end0
  have hml := HML.out
  subst hml
  exact ⟨_, rfl, hC5.out, ⟨_, hL5.out, rfl⟩, hG5.out⟩
 have eN : M = N := by rw [HNE.out]; unfold cutT; rw [if_neg hfull]
 have HND := Lib.hid (show KeyN (N ++ [h]) by rw [HNE.out]; exact HKN.out)
 have hNl : N.length + 1 ≤ most := by rw [← eN]; omega
 have e1 : ((M.length : Int) == most) = false := by simp; omega
 have HNL := Lib.hid hNl
 clear hNl hfull
 generalize hml : M.length = ml at *
 have HML := Lib.hid hml
 clear hml
 go_wp2_with fail
 go_quiet (fail)
 have h3 := h1.chg ((Chg.refl [] w1).drewN nq) (by simp) (by simp)
 have hbx3 := hbx1.chg ((Chg.refl [] w1).drewN nq) (by simp)
 have hch3 := hch1.drewN nq
 generalize w1.drewN nq = w3 at *
 rw [eN] at h3
 obtain ⟨v3, hv3e⟩ : ∃ v3, v3 = Value.slice A ml c := ⟨_, rfl⟩
 rw [← hv3e] at h3
 have hv3 : v3.ownBlock = (Value.slice A ml c).ownBlock := by rw [hv3e]
 clear hv3e
 have hbn : bx ∉ v3.ownBlock.toList := by rw [hv3]; exact fun hm => hbS (List.mem_cons_of_mem _ hm)
 go_wp2_with fail
 have hN3 := HNL.out
 clear h1 hbx1 hch1 d0 d1 e1 eN
 have hbp : bx ≠ p := fun e => hbS (e ▸ List.mem_cons_self)
 have hpS : p ∈ p :: (Value.slice A ml c).ownBlock.toList := List.mem_cons_self
 obtain ⟨A3, c3, rfl, hA3, _⟩ := h3.ow.form
 have hst3 := h3.st
 have how3 := h3.ow
 obtain ⟨d0, d1⟩ := h3.c
 obtain ⟨b0, b1, b2, b3, b4, b5, b6⟩ := hbx3.cells
 have hne3 := h3.ne
 have hlt3 := h3.st.lt
 have hlo := h3.lo; have hhi := h3.hi
 have hn1 : N.length + 1 ≤ 1000000 := by omega
 have hA0 := (Chg.refl [] w3).drew.alloc (.cells #[.int .i64 h.a, .int .i64 h.p, .int .i64 h.f, .bool h.w, .bool h.u, .bool h.x, .bool h.d] 94)
 have hnb : BlkH (w3.drew.alloc (.cells #[.int .i64 h.a, .int .i64 h.p, .int .i64 h.f, .bool h.w, .bool h.u, .bool h.x, .bool h.d] 94)) w3.heap.size h := BlkH.new w3.drew h
 have how4 := how3.chg hA0 (by simp)
 have hst4 := hA0.blk hst3 (by simp)
 have hbx4 := hbx3.chg hA0 (by simp)
 have e4 := hst4.cell 1
 simp only [qA, qS, qZ] at e4
 obtain ⟨g0, g1, g2, g3, g4, g5, g6⟩ := hbx4.cells
 have hsrc := hnb.src
 clear hA3
 refine wp_region_noPanic ?_
 refine wp_region_held_drew (S := (fun w' => w'.cell? ⟨bx, 0, none⟩ = some (.int .i64 h.a) ∧ w'.cell? ⟨bx, 1, none⟩ = some (.int .i64 h.p) ∧ w'.cell? ⟨bx, 2, none⟩ = some (.int .i64 h.f) ∧ w'.cell? ⟨bx, 3, none⟩ = some (.bool h.w) ∧ w'.cell? ⟨bx, 4, none⟩ = some (.bool h.u) ∧ w'.cell? ⟨bx, 5, none⟩ = some (.bool h.x) ∧ w'.cell? ⟨bx, 6, none⟩ = some (.bool h.d))) (by kernel_rfl) ?_ (fun hHeld => ?_)
 ·exact ⟨b0, b1, b2, b3, b4, b5, b6⟩
 (refine tk 0 22 ?_ ?_ ?_; rotate_left; · (intro w hSw; (try dsimp only at hSw); go_simp; (try with_reducible rfl)))
 (try simp only [Act.put, qI, qO, qU])
 (refine tk 1 23 ?_ ?_ ?_; rotate_left; · (intro w hSw; (try dsimp only at hSw); go_simp; (try with_reducible rfl)))
 (try simp only [Act.put, qI, qO, qU])
 (refine tk 2 24 ?_ ?_ ?_; rotate_left; · (intro w hSw; (try dsimp only at hSw); go_simp; (try with_reducible rfl)))
 (try simp only [Act.put, qI, qO, qU])
 (refine tk 3 25 ?_ ?_ ?_; rotate_left; · (intro w hSw; (try dsimp only at hSw); go_simp; (try with_reducible rfl)))
 (try simp only [Act.put, qI, qO, qU])
 (refine tk 5 27 ?_ ?_ ?_; rotate_left; · (intro w hSw; (try dsimp only at hSw); go_simp; (try with_reducible rfl)))
 (try simp only [Act.put, qI, qO, qU])
 refine wpAnyH_ready (rs := [4, 6]) (by kernel_rfl) (by simp) ?_; refine AllReadyH.cons (o := _) rfl (fun K hK => ?_) (AllReadyH.cons (o := _) rfl (fun K hK => ?_) AllReadyH.nil)
 ·go_simp
  skip
  refine hK.out _ _ (by (try dsimp only); exact ⟨b0, b1, b2, b3, b4, b5, b6⟩) (fun hHeld => ?_)
  clear hK K
  (try simp only [Act.put, qI, qO, qU])
  refine rdy 6 fun K hK => ?_
  go_simp
  skip
  refine hK.out _ _ (by (try dsimp only); exact ⟨g0, g1, g2, g3, g4, g5, g6⟩) (fun hHeld => ?_)
  clear hK K
  (try simp only [Act.put, qI, qO, qU])
  refine rdy 7 fun K hK => ?_
  (refine step_append_H (some 29) rfl rfl (.tmp 26) (.tmp 28) rfl (.slice A3 N.length c3) N (by simp [Act.eval]) how4 (some ⟨w3.heap.size, 0, none⟩) 1 1 [h] (by simp [Act.eval]) hsrc rfl (by omega) ?_; intro v5 w5 hown5 hc5 hv5; have hst5 := hc5.blk hst4 (fun hm => hne3 p hm rfl); have hbx5 := hbx4.chg hc5 hbn; have e5 := hst5.cell 1; have k5 := hst5.frozen 1; simp only [qA, qS, qZ] at e5; obtain ⟨m0, m1, m2, m3, m4, m5, m6⟩ := hbx5.cells)
  refine hK.out _ _ (by (try dsimp only); exact ⟨m0, m1, m2, m3, m4, m5, m6⟩) (fun hHeld => ?_)
  clear hK K
  (try dsimp only)
  (try simp only [Act.put, qI, qO, qU])
  (refine tk 8 30 ?_ ?_ ?_; rotate_left; · (intro w hSw; (try dsimp only at hSw); go_simp; (try with_reducible rfl)))
  (try simp only [Act.put, qI, qO, qU])
  (refine tk 9 31 ?_ ?_ ?_; rotate_left; · (intro w hSw; (try dsimp only at hSw); go_simp; (try with_reducible rfl)))
  (try simp only [Act.put, qI, qO, qU])
  obtain ⟨A5, c5, rfl, _, _⟩ := hown5.form
  have hcl : Chg [p] w5 (w5.setCell ⟨p, 1, none⟩ (.slice A5 (N ++ [h]).length c5)) := (Chg.refl _ _).setCell (by simp) _
  have hbx6 := hbx5.chg hcl (by simpa using hbp)
  have hst6 := hst5.set_ 1 (.slice A5 (N ++ [h]).length c5)
  have how6 := hown5.chg hcl (by intro g hg hm; simp at hm; subst hm; exact put_own hv5 hst4.lt (fun hm => hne3 g hm rfl) hg)
  obtain ⟨y0, y1, y2, y3, y4, y5, y6⟩ := hbx6.cells
  have hN5 : (N ++ [h]).length ≤ most := by simp; omega
  have hL5 := Lib.hid (show TIn (w5.setCell ⟨p, 1, none⟩ (.slice A5 (N ++ [h]).length c5)) p most (.slice A5 (N ++ [h]).length c5) (N ++ [h]) from ⟨hst6, how6, hN5, hlo, hhi, HND.out⟩)
  have hC5 := Lib.hid (put_chg hch3 hA0 hc5 hcl (by rw [← hv3]; exact fun i hi => List.mem_cons_of_mem _ hi) hpS)
  have hG5 := Lib.hid (put_grew (p := p) hv5 hv3 hA0.size hch3.size)
  clear hst6 how6 hcl hN5 hown5 hst4 how4 hbx4 hnb hbx6
  generalize (N ++ [h]).length = n5 at *
  refine rdy 10 fun K hK => ?_
  go_simp
  skip
  refine hK.out _ _ (by (try dsimp only); exact ⟨y0, y1, y2, y3, y4, y5, y6⟩) (fun hHeld => ?_)
  clear hK K
  (try simp only [Act.put, qI, qO, qU])
  refine wpAnyH_done (by kernel_rfl) ?_ _
  refine NoPanic.normal ?_
  go_wp2_with fail
  go_end0
  have hml := HML.out
  subst hml
  exact ⟨_, rfl, hC5.out, ⟨_, hL5.out, rfl⟩, hG5.out⟩
 go_simp
 skip
 refine hK.out _ _ (by (try dsimp only); exact ⟨g0, g1, g2, g3, g4, g5, g6⟩) (fun hHeld => ?_)
 clear hK K
 (try simp only [Act.put, qI, qO, qU])
 refine rdy 4 fun K hK => ?_
 go_simp
 skip
 refine hK.out _ _ (by (try dsimp only); exact ⟨g0, g1, g2, g3, g4, g5, g6⟩) (fun hHeld => ?_)
 clear hK K
 (try simp only [Act.put, qI, qO, qU])
 refine rdy 7 fun K hK => ?_
 (refine step_append_H (some 29) rfl rfl (.tmp 26) (.tmp 28) rfl (.slice A3 N.length c3) N (by simp [Act.eval]) how4 (some ⟨w3.heap.size, 0, none⟩) 1 1 [h] (by simp [Act.eval]) hsrc rfl (by omega) ?_; intro v5 w5 hown5 hc5 hv5; have hst5 := hc5.blk hst4 (fun hm => hne3 p hm rfl); have hbx5 := hbx4.chg hc5 hbn; have e5 := hst5.cell 1; have k5 := hst5.frozen 1; simp only [qA, qS, qZ] at e5; obtain ⟨m0, m1, m2, m3, m4, m5, m6⟩ := hbx5.cells)
 refine hK.out _ _ (by (try dsimp only); exact ⟨m0, m1, m2, m3, m4, m5, m6⟩) (fun hHeld => ?_)
 clear hK K
 (try dsimp only)
 (try simp only [Act.put, qI, qO, qU])
 (refine tk 8 30 ?_ ?_ ?_; rotate_left; · (intro w hSw; (try dsimp only at hSw); go_simp; (try with_reducible rfl)))
 (try simp only [Act.put, qI, qO, qU])
 (refine tk 9 31 ?_ ?_ ?_; rotate_left; · (intro w hSw; (try dsimp only at hSw); go_simp; (try with_reducible rfl)))
 (try simp only [Act.put, qI, qO, qU])
 obtain ⟨A5, c5, rfl, _, _⟩ := hown5.form
 have hcl : Chg [p] w5 (w5.setCell ⟨p, 1, none⟩ (.slice A5 (N ++ [h]).length c5)) := (Chg.refl _ _).setCell (by simp) _
 have hbx6 := hbx5.chg hcl (by simpa using hbp)
 have hst6 := hst5.set_ 1 (.slice A5 (N ++ [h]).length c5)
 have how6 := hown5.chg hcl (by intro g hg hm; simp at hm; subst hm; exact put_own hv5 hst4.lt (fun hm => hne3 g hm rfl) hg)
 obtain ⟨y0, y1, y2, y3, y4, y5, y6⟩ := hbx6.cells
 have hN5 : (N ++ [h]).length ≤ most := by simp; omega
 have hL5 := Lib.hid (show TIn (w5.setCell ⟨p, 1, none⟩ (.slice A5 (N ++ [h]).length c5)) p most (.slice A5 (N ++ [h]).length c5) (N ++ [h]) from ⟨hst6, how6, hN5, hlo, hhi, HND.out⟩)
 have hC5 := Lib.hid (put_chg hch3 hA0 hc5 hcl (by rw [← hv3]; exact fun i hi => List.mem_cons_of_mem _ hi) hpS)
 have hG5 := Lib.hid (put_grew (p := p) hv5 hv3 hA0.size hch3.size)
 clear hst6 how6 hcl hN5 hown5 hst4 how4 hbx4 hnb hbx6
 generalize (N ++ [h]).length = n5 at *
 refine rdy 10 fun K hK => ?_
 go_simp
 skip
 refine hK.out _ _ (by (try dsimp only); exact ⟨y0, y1, y2, y3, y4, y5, y6⟩) (fun hHeld => ?_)
 clear hK K
 (try simp only [Act.put, qI, qO, qU])
 refine wpAnyH_done (by kernel_rfl) ?_ _
 refine NoPanic.normal ?_
 go_wp2_with fail
 go_end0
 have hml := HML.out
 subst hml
 exact ⟨_, rfl, hC5.out, ⟨_, hL5.out, rfl⟩, hG5.out⟩
end Go.Proofs.YtgjfidjhbkaobaaGreat
