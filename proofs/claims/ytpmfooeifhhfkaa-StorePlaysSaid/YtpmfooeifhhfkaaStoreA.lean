/-
  Shadow pages as they lie in memory: a map of pointers, a page's cells, a store. No function of the program is walked here.
-/
import Derived.Test.YtpmfooeifhhfkaaStoreP
import Derived.Test.YtpmfooeifhhfkaaG2
import Derived.Test.YtpmfooeifhhfkaaRowG
namespace Go.Proofs.Ytpmfooeifhhfkaa
open Go.RowKit Go.Maps

/-! ### a map of pointers -/
/-- how a pointer reads as an element of a map -/
def ptrElem (v : Value) : Option (DataW Unit × List MemPlace) :=
  match v with
  | .pointer none => some (.lit (.int .i64 (-1)), [])
  | .pointer (some ⟨g, 0, none⟩) => some (.lit (.int .i64 g), [])
  | _ => none
def ptrO : Option Nat → Value
  | some g => .pointer (some ⟨g, 0, none⟩)
  | none => .pointer none
def ptrD : Option Nat → Int
  | some g => g
  | none => -1
theorem ptrElem_mk (x : Option Nat) : ptrElem (ptrO x) = some (.lit (.int .i64 (ptrD x)), []) := by cases x <;> rfl
theorem ptrElem_inv {v : Value} {x : Option Nat} {ps : List MemPlace} (h : ptrElem v = some (.lit (.int .i64 (ptrD x)), ps)) : v = ptrO x := by
  unfold ptrElem at h
  split at h
  · injection h with h; injection h with h _; injection h with h; injection h with _ h
    cases x with
    | none => rfl
    | some g => exact absurd h (by unfold ptrD; simp only; omega)
  · injection h with h; injection h with h _; injection h with h; injection h with _ h
    cases x with
    | none => exact absurd h (by unfold ptrD; simp only; omega)
    | some g => unfold ptrD at h; simp only at h; rw [Int.ofNat_inj.1 h]; rfl
  · cases h

/-- block b is a map from ints to pointers, of n keys: those of F -/
def PtrM (P : Program) (kt : TypeId) (w : World) (b n : Nat) (F : Int → Option Nat) : Prop :=
  ∃ D : DataW Unit, w.ownsMap P kt ptrElem b n D ∧ (∀ x, Maps.has D (.int .i64 x) = (F x).isSome) ∧ (∀ x, D.atKey (.int .i64 x) (.lit (.int .i64 (-1))) = .lit (.int .i64 (ptrD (F x)))) ∧ Maps.size D = n
def putF (F : Int → Option Nat) (f : Int) (g : Nat) : Int → Option Nat := fun y => if y = f then some g else F y
def delF (F : Int → Option Nat) (f : Int) : Int → Option Nat := fun y => if y = f then none else F y

section
variable {P : Program} {kt : TypeId} {w w' : World} {b n : Nat} {F : Int → Option Nat}
theorem PtrM.lt (h : PtrM P kt w b n F) : b < w.heap.size := by obtain ⟨D, h1, _⟩ := h; exact h1.lt
theorem PtrM.made (w : World) (P : Program) (kt : TypeId) : PtrM P kt (w.alloc (.map #[] 0)) w.heap.size 0 (fun _ => none) :=
  ⟨.map [], World.ownsMap_made _ _ _ _, fun _ => rfl, fun _ => rfl, rfl⟩
theorem PtrM.congr {F' : Int → Option Nat} (h : PtrM P kt w b n F) (e : ∀ x, F x = F' x) : PtrM P kt w b n F' := by
  obtain ⟨D, h1, h2, h3, h4⟩ := h; exact ⟨D, h1, fun x => by rw [h2, e], fun x => by rw [h3, e], h4⟩
theorem PtrM.chg {T : List Nat} (h : PtrM P kt w b n F) (hc : Chg T w w') (hn : b ∉ T) : PtrM P kt w' b n F := by
  obtain ⟨D, h1, h2, h3, h4⟩ := h; exact ⟨D, ownsMap_block h1 (hc.block b h1.lt hn), h2, h3, h4⟩
theorem PtrM.of_block (h : PtrM P kt w b n F) (e : w'.heap[b]? = w.heap[b]?) : PtrM P kt w' b n F := by
  obtain ⟨D, h1, h2, h3, h4⟩ := h; exact ⟨D, ownsMap_block h1 e, h2, h3, h4⟩
theorem PtrM.blk_ne {g : Nat} {t : TypeId} {cs : Array Value} (h : PtrM P kt w b n F) (hb : Blk w g t cs) : b ≠ g := by
  obtain ⟨D, ⟨es, clock, h1, _⟩, _⟩ := h
  intro e; subst e
  have := Eq.trans (Eq.symm h1) hb
  cases this
/-- 'm[f]' -/
theorem PtrM.look (h : PtrM P kt w b n F) (K : Keyed P kt) {t e : TypeId} (ht : P.underlying t = some (.map kt e)) (hkt : P.underlying kt = some (.int .i64)) (hz : ∀ w, (zeroValue e).run P w = .ok (.pointer none) w) (f : Int) (hf : (Lit.int .i64 f).wf = true) :
    (Instr.lookup t (.map (some b)) (.int .i64 f) false).run P w = .ok (ptrO (F f)) w := by
  obtain ⟨D, h1, h2, h3, h4⟩ := h
  obtain ⟨v, ps, hr, hv⟩ := h1.lookup K ht (hz w) (zd := .lit (.int .i64 (-1))) (zp := []) rfl (keyOf_int_mk hkt hf)
  rw [h3] at hv
  rw [hr, ptrElem_inv hv]

theorem ownsMap_tightP {D : DataW Unit} {m : Nat} (h : w.ownsMap P kt ptrElem b m D) : w.ownsMap P kt ptrElem b (Maps.size D) D := by
  obtain ⟨es, clock, hb, F, hs, rfl⟩ := h
  exact ⟨es, clock, hb, F, by simp [Maps.size, length_sorted], rfl⟩
/-- 'm[f] = p', of a new key -/
theorem PtrM.store (h : PtrM P kt w b n F) (K : Keyed P kt) {t e : TypeId} (ht : P.underlying t = some (.map kt e)) (hkt : P.underlying kt = some (.int .i64)) (hn : n < maxLen) (f : Int) (hf : (Lit.int .i64 f).wf = true) (g : Nat) (hF : F f = none) :
    ∃ w', (Instr.mapUpdate t (.map (some b)) (.int .i64 f) (.pointer (some ⟨g, 0, none⟩))).run P w = .ok () w' ∧ PtrM P kt w' b (n + 1) (putF F f g) ∧ Chg [b] w w' := by
  obtain ⟨D, h1, h2, h3, h4⟩ := h
  obtain ⟨w', hr, o1, o2⟩ := h1.store K ht hn (keyOf_int_mk hkt hf) (ptrElem_mk (some g))
  refine ⟨w', hr, ⟨_, o1, fun x => ?_, fun x => ?_, ?_⟩, Chg.of_grown o2.grown⟩
  · by_cases hx : x = f
    · subst hx; rw [Maps.has_put_same h1.isMap (by trivial)]; simp [putF]
    · rw [Maps.has_put_other (lit_ne hx), h2]; simp [putF, hx]
  · by_cases hx : x = f
    · subst hx; rw [Maps.atKey_put_same h1.isMap (by trivial)]; simp [putF]
    · rw [Maps.atKey_put_other (lit_ne hx), h3]; simp [putF, hx]
  · rw [Maps.size_put (h1.tidy K), h2, hF, h4]; rfl
/-- 'delete(m, f)', of one that is there -/
theorem PtrM.drop (h : PtrM P kt w b n F) (K : Keyed P kt) {t e : TypeId} (ht : P.underlying t = some (.map kt e)) (hkt : P.underlying kt = some (.int .i64)) (ty : TypeId) (f : Int) (hf : (Lit.int .i64 f).wf = true) (hF : (F f).isSome = true) :
    ∃ w', (Builtin.delete_ #[t, kt] ty #[.map (some b), .int .i64 f]).run P w = .ok (.tuple #[]) w' ∧ PtrM P kt w' b (n - 1) (delF F f) ∧ 0 < n ∧ Chg [b] w w' := by
  obtain ⟨D, h1, h2, h3, h4⟩ := h
  have hd := Maps.size_del (k := .int .i64 f) (h1.tidy K)
  rw [h2, hF, h4] at hd
  simp only [if_true] at hd
  obtain ⟨w', hr, o1, o2⟩ := h1.drop K ht (keyOf_int_mk hkt hf) ty
  refine ⟨w', hr, ⟨_, (show n - 1 = Maps.size (D.del (.int .i64 f)) by omega) ▸ ownsMap_tightP o1, fun x => ?_, fun x => ?_, by omega⟩, by omega, Chg.of_grown o2.grown⟩
  · by_cases hx : x = f
    · subst hx; rw [Maps.has_del_same]; simp [delF]
    · rw [Maps.has_del_other (lit_ne hx), h2]; simp [delF, hx]
  · by_cases hx : x = f
    · subst hx; rw [Maps.atKey_del_same]; simp [delF, ptrD]
    · rw [Maps.atKey_del_other (lit_ne hx), h3]; simp [delF, hx]
end

/-! ### a page's cells -/
def Slt.cl (x : Slt) : List Value := [.int .i64 x.kind, .int .i64 x.to_, .bool x.r.w, .bool x.r.u, .bool x.r.x]
def sltE : Enc Slt := ⟨Slt.cl, 5, by decide, fun _ => rfl, fun x u hu => by
  simp only [Slt.cl, List.mem_cons, List.not_mem_nil, or_false] at hu
  rcases hu with rfl | rfl | rfl | rfl | rfl <;> rfl⟩
def Pg.cl (q : Pg) : List Value := .int .i64 q.f :: .int .i64 q.k.g :: .int .i64 q.k.lev :: .int .i64 q.k.role :: sltE.all q.s
theorem Pg.cl_len (q : Pg) : q.cl.length = 4 + q.s.length * 5 := by
  unfold Pg.cl; simp only [List.length_cons]; rw [sltE.all_len, show sltE.k = 5 from rfl]; omega
/-- block g is this page -/
def PgB (w : World) (g : Nat) (q : Pg) : Prop := Blk w g 102 q.cl.toArray
section
variable {w w' : World} {g : Nat} {q : Pg}
theorem PgB.head (h : PgB w g q) : w.cell? ⟨g, 0, none⟩ = some (.int .i64 q.f) ∧ w.cell? ⟨g, 1, none⟩ = some (.int .i64 q.k.g) ∧ w.cell? ⟨g, 2, none⟩ = some (.int .i64 q.k.lev) ∧ w.cell? ⟨g, 3, none⟩ = some (.int .i64 q.k.role) :=
  ⟨Blk.cell h 0, Blk.cell h 1, Blk.cell h 2, Blk.cell h 3⟩
theorem PgB.slot (h : PgB w g q) {i : Nat} {x : Slt} (hx : q.s[i]? = some x) : sltE.At w g (4 + i * 5) x := by
  intro j u hu
  have hj := (List.getElem?_eq_some_iff.1 hu).1
  rw [sltE.len] at hj
  rw [Blk.cell h]
  have e : 4 + i * 5 + j = (i * sltE.k + j) + 1 + 1 + 1 + 1 := by show _ = (i * 5 + j) + 1 + 1 + 1 + 1; omega
  rw [e]
  simp only [Pg.cl, List.getElem?_toArray, List.getElem?_cons_succ]
  rw [sltE.all_at _ _ _ hj, hx]; exact hu
theorem sltAt5 {b o : Nat} {x : Slt} (h : sltE.At w b o x) : w.cell? ⟨b, o, none⟩ = some (.int .i64 x.kind) ∧ w.cell? ⟨b, o + 1, none⟩ = some (.int .i64 x.to_) ∧ w.cell? ⟨b, o + 2, none⟩ = some (.bool x.r.w) ∧ w.cell? ⟨b, o + 3, none⟩ = some (.bool x.r.u) ∧ w.cell? ⟨b, o + 4, none⟩ = some (.bool x.r.x) :=
  ⟨h 0 _ rfl, h 1 _ rfl, h 2 _ rfl, h 3 _ rfl, h 4 _ rfl⟩
/-- five cells, one behind the other -/
def set5 (w : World) (b o : Nat) (x : Slt) : World := ((((w.setCell ⟨b, o, none⟩ (.int .i64 x.kind)).setCell ⟨b, o + 1, none⟩ (.int .i64 x.to_)).setCell ⟨b, o + 2, none⟩ (.bool x.r.w)).setCell ⟨b, o + 3, none⟩ (.bool x.r.u)).setCell ⟨b, o + 4, none⟩ (.bool x.r.x)
theorem chg_set5 (w : World) (b o : Nat) (x : Slt) : Chg [b] w (set5 w b o x) := by
  unfold set5
  exact (((((Chg.refl [b] w).setCell (by simp) _).setCell (by simp) _).setCell (by simp) _).setCell (by simp) _).setCell (by simp) _
theorem set5_list (q : Pg) {i : Nat} (hi : i < q.s.length) (x : Slt) : ((((q.cl.set (4 + i * 5) (.int .i64 x.kind)).set (4 + i * 5 + 1) (.int .i64 x.to_)).set (4 + i * 5 + 2) (.bool x.r.w)).set (4 + i * 5 + 3) (.bool x.r.u)).set (4 + i * 5 + 4) (.bool x.r.x) = Pg.cl ⟨q.f, q.k, q.s.set i x⟩ := by
  have hl := q.cl_len
  have e3 : ∀ (s : List Slt) (k : Nat), (Pg.cl ⟨q.f, q.k, s⟩)[k + 4]? = s[k / 5]?.bind fun y => (Slt.cl y)[k % 5]? := by
    intro s k
    have hd : k = k / 5 * sltE.k + k % 5 := by show k = k / 5 * 5 + k % 5; omega
    have hm : k % 5 < sltE.k := Nat.mod_lt _ (by decide)
    show (sltE.all s)[k]? = _
    conv => lhs; rw [hd]
    exact sltE.all_at s (k / 5) (k % 5) hm
  have e4 : ∀ k : Nat, q.cl[k + 4]? = q.s[k / 5]?.bind fun y => (Slt.cl y)[k % 5]? := fun k => e3 q.s k
  refine List.ext_getElem? fun j => ?_
  simp only [List.getElem?_set, List.length_set]
  by_cases h4 : j < 4
  · rw [if_neg (by omega), if_neg (by omega), if_neg (by omega), if_neg (by omega), if_neg (by omega)]
    have : j = 0 ∨ j = 1 ∨ j = 2 ∨ j = 3 := by omega
    rcases this with rfl | rfl | rfl | rfl <;> rfl
  · obtain ⟨k, rfl⟩ : ∃ k, j = k + 4 := ⟨j - 4, by omega⟩
    rw [e4, e3 (q.s.set i x)]
    by_cases hki : k / 5 = i
    · rw [hki, List.getElem?_set, if_pos rfl, if_pos hi, Option.bind_some]
      have hm2 : k % 5 = 0 ∨ k % 5 = 1 ∨ k % 5 = 2 ∨ k % 5 = 3 ∨ k % 5 = 4 := by omega
      rcases hm2 with h0 | h0 | h0 | h0 | h0
      · rw [if_neg (by omega), if_neg (by omega), if_neg (by omega), if_neg (by omega), if_pos (by omega), if_pos (by omega), h0]; rfl
      · rw [if_neg (by omega), if_neg (by omega), if_neg (by omega), if_pos (by omega), if_pos (by omega), h0]; rfl
      · rw [if_neg (by omega), if_neg (by omega), if_pos (by omega), if_pos (by omega), h0]; rfl
      · rw [if_neg (by omega), if_pos (by omega), if_pos (by omega), h0]; rfl
      · rw [if_pos (by omega), if_pos (by omega), h0]; rfl
    · rw [if_neg (by omega), if_neg (by omega), if_neg (by omega), if_neg (by omega), if_neg (by omega), List.getElem?_set, if_neg (fun h => hki h.symm)]
theorem PgB.set5 (h : PgB w g q) {i : Nat} (hi : i < q.s.length) (x : Slt) : PgB (set5 w g (4 + i * 5) x) g ⟨q.f, q.k, q.s.set i x⟩ := by
  have e := ((((Blk.set_ h (4 + i * 5) (.int .i64 x.kind)).set_ (4 + i * 5 + 1) (.int .i64 x.to_)).set_ (4 + i * 5 + 2) (.bool x.r.w)).set_ (4 + i * 5 + 3) (.bool x.r.u)).set_ (4 + i * 5 + 4) (.bool x.r.x)
  simp only [List.setIfInBounds_toArray] at e
  rw [set5_list q hi x] at e
  exact e
end

/-! ### a store -/
/-- the block of the page of this frame -/
def blkF : List Pg → List Nat → Int → Option Nat
  | q :: L, b :: B, f => if f = q.f then some b else blkF L B f
  | _, _, _ => none
theorem blkF_none : ∀ {L : List Pg} {B : List Nat} {f : Int}, B.length = L.length → (blkF L B f = none ↔ pgAt L f = none)
  | [], [], f, _ => by simp [blkF, pgAt]
  | q :: L, b :: B, f, h => by
    unfold blkF pgAt
    rw [List.find?_cons]
    by_cases e : f = q.f
    · subst e; simp
    · rw [if_neg e, show (q.f == f) = false by simpa using fun h => e h.symm]; exact blkF_none (by simpa using h)
/-- a page that there is: its place, and its block -/
theorem blkF_some : ∀ {L : List Pg} {B : List Nat} {f : Int} {q : Pg}, B.length = L.length → pgAt L f = some q → ∃ (i : Nat) (b : Nat), L[i]? = some q ∧ B[i]? = some b ∧ blkF L B f = some b
  | [], [], f, q, _, h => by simp [pgAt] at h
  | p :: L, b :: B, f, q, hl, h => by
    unfold blkF
    unfold pgAt at h
    rw [List.find?_cons] at h
    by_cases e : f = p.f
    · subst e
      simp at h; subst h
      exact ⟨0, b, rfl, rfl, by simp⟩
    · rw [show (p.f == f) = false by simpa using fun h => e h.symm] at h
      obtain ⟨i, b', h1, h2, h3⟩ := blkF_some (L := L) (B := B) (by simpa using hl) h
      exact ⟨i + 1, b', h1, h2, by rw [if_neg e]; exact h3⟩
theorem blkF_at : ∀ {L : List Pg} {B : List Nat} {i : Nat} {q : Pg} {b : Nat}, (L.map Pg.f).Nodup → L[i]? = some q → B[i]? = some b → blkF L B q.f = some b
  | [], _, i, q, b, _, h, _ => by simp at h
  | p :: L, [], i, q, b, _, _, h => by simp at h
  | p :: L, c :: B, 0, q, b, _, h1, h2 => by simp at h1 h2; subst h1; subst h2; simp [blkF]
  | p :: L, c :: B, i + 1, q, b, hn, h1, h2 => by
    rw [List.getElem?_cons_succ] at h1 h2
    rw [List.map_cons, List.nodup_cons] at hn
    unfold blkF
    rw [if_neg (fun e => hn.1 (List.mem_map.2 ⟨q, List.mem_of_getElem? h1, e⟩))]
    exact blkF_at hn.2 h1 h2
theorem blkF_congr : ∀ {L L' : List Pg} {B : List Nat} {f : Int}, L.map Pg.f = L'.map Pg.f → blkF L B f = blkF L' B f
  | [], [], _, _, _ => rfl
  | q :: L, q' :: L', [], _, _ => rfl
  | q :: L, q' :: L', b :: B, f, h => by
    simp only [List.map_cons, List.cons.injEq] at h
    unfold blkF
    rw [h.1, blkF_congr h.2]
theorem blkF_app : ∀ {L : List Pg} {B : List Nat} {q : Pg} {b : Nat} {f : Int}, B.length = L.length → (∀ p ∈ L, p.f ≠ q.f) → blkF (L ++ [q]) (B ++ [b]) f = putF (blkF L B) q.f b f
  | [], [], q, b, f, _, _ => by simp [blkF, putF]
  | p :: L, c :: B, q, b, f, h, hn => by
    simp only [List.cons_append]
    unfold blkF
    rw [blkF_app (by simpa using h) (fun p hp => hn p (List.mem_cons_of_mem _ hp))]
    unfold putF
    have := hn p List.mem_cons_self
    by_cases e1 : f = p.f
    · rw [if_pos e1, if_neg (by rw [e1]; exact this)]; simp [blkF, e1]
    · rw [if_neg e1]; simp [blkF, e1]

/-- q is a store in host (hp, hb) of n frames, of m frames from a on: its free list fp in blocks FS, its map mp, its order v, its pages' blocks B -/
structure StX (w : World) (q hp hb n a m : Nat) (s : Sr) (fp mp : Nat) (FS : List Nat) (v : Value) (B : List Nat) : Prop where
  st : Blk w q 90 #[.pointer (some ⟨hp, 0, none⟩), .pointer (some ⟨fp, 0, none⟩), .map (some mp), v]
  fl : FAt w FS fp a m s.fr
  mp_ : PtrM Try.prog 3 w mp s.L.length (blkF s.L B)
  od : OwnI w 3 .i64 v (s.L.map Pg.f)
  bl : B.length = s.L.length
  nb : B.Nodup
  pg : ∀ (i : Nat) (p : Pg) (b : Nat), s.L[i]? = some p → B[i]? = some b → PgB w b p
  hm : MemAt w hp hb n s.W
  nd : (s.L.map Pg.f).Nodup
  ge : ∀ p ∈ s.L, 0 ≤ p.f ∧ p.f < n
  e8 : ∀ p ∈ s.L, p.s.length = 8
  fs : q ∉ FS ∧ mp ∉ FS ∧ (∀ i ∈ v.ownBlock.toList, i ∉ FS) ∧ (∀ i ∈ B, i ∉ FS)
  hs : hp ∉ FS ∧ hb ∉ FS
/-- its own blocks -/
def stS (q mp : Nat) (FS : List Nat) (v : Value) (B : List Nat) : List Nat := q :: mp :: (v.ownBlock.toList ++ (FS ++ B))
def StIn (w : World) (S : List Nat) (q hp hb n a m : Nat) (s : Sr) : Prop := ∃ fp mp FS v B, StX w q hp hb n a m s fp mp FS v B ∧ S = stS q mp FS v B

section
variable {w w' : World} {S T : List Nat} {q hp hb n a m fp mp : Nat} {s : Sr} {FS B : List Nat} {v : Value}
theorem StX.page_of (h : StX w q hp hb n a m s fp mp FS v B) {b : Nat} (hB : b ∈ B) : ∃ p, PgB w b p := by
  obtain ⟨i, hi, rfl⟩ := List.getElem_of_mem hB
  have := h.bl
  exact ⟨_, h.pg i _ _ (List.getElem?_eq_getElem (by omega)) (List.getElem?_eq_getElem hi)⟩
theorem StX.ne (h : StX w q hp hb n a m s fp mp FS v B) : mp ≠ q ∧ (∀ g ∈ v.ownBlock.toList, g ≠ q ∧ g ≠ mp ∧ g ∉ B ∧ g ≠ hp ∧ g ≠ hb) ∧ q ∉ B ∧ mp ∉ B ∧ hp ≠ q ∧ hb ≠ q ∧ hp ≠ mp ∧ hb ≠ mp ∧ hp ∉ B ∧ hb ∉ B ∧ hp ≠ hb := by
  have hq : q ∉ B := fun hm => by obtain ⟨p, hp⟩ := h.page_of hm; exact (Blk.type_ne h.st hp (by decide)) rfl
  have hmb : mp ∉ B := fun hm => by obtain ⟨p, hp⟩ := h.page_of hm; exact h.mp_.blk_ne hp rfl
  have h1 : hp ∉ B := fun hm => by obtain ⟨p, hp⟩ := h.page_of hm; exact (Blk.type_ne h.hm.st hp (by decide)) rfl
  have h2 : hb ∉ B := fun hm => by obtain ⟨p, hp⟩ := h.page_of hm; exact (Blk.type_ne h.hm.ws hp (by decide)) rfl
  refine ⟨h.mp_.blk_ne h.st, fun g hg => ?_, hq, hmb, Blk.type_ne h.hm.st h.st (by decide), Blk.type_ne h.hm.ws h.st (by decide), (h.mp_.blk_ne h.hm.st).symm, (h.mp_.blk_ne h.hm.ws).symm, h1, h2, Blk.type_ne h.hm.st h.hm.ws (by decide)⟩
  obtain ⟨cs, hb⟩ := h.od.blk hg
  exact ⟨hb.type_ne h.st (by decide), (h.mp_.blk_ne hb).symm, fun hm => by obtain ⟨p, hp⟩ := h.page_of hm; exact (hb.type_ne hp (by decide)) rfl, hb.type_ne h.hm.st (by decide), hb.type_ne h.hm.ws (by decide)⟩
theorem StX.chg (h : StX w q hp hb n a m s fp mp FS v B) (hc : Chg T w w') (hd : ∀ i ∈ stS q mp FS v B, i ∉ T) (h1 : hp ∉ T) (h2 : hb ∉ T) : StX w' q hp hb n a m s fp mp FS v B :=
  ⟨hc.blk h.st (hd q (by simp [stS])), h.fl.chg hc (fun i hi => hd i (by simp [stS, hi])), h.mp_.chg hc (hd mp (by simp [stS])), h.od.chg hc (fun i hi => hd i (by unfold stS; simp only [List.mem_cons, List.mem_append]; exact .inr (.inr (.inl hi)))), h.bl, h.nb,
   fun i p b hp hb => hc.blk (h.pg i p b hp hb) (hd b (by have := List.mem_of_getElem? hb; simp [stS, this])), ⟨hc.blk h.hm.st h1, hc.blk h.hm.ws h2, h.hm.len, h.hm.pos, h.hm.le⟩, h.nd, h.ge, h.e8, h.fs, h.hs⟩
theorem StX.new (h : StX w q hp hb n a m s fp mp FS v B) (hc : Chg [] w w') : StX w' q hp hb n a m s fp mp FS v B := h.chg hc (by simp) (by simp) (by simp)
theorem StX.lt (h : StX w q hp hb n a m s fp mp FS v B) : ∀ i ∈ stS q mp FS v B, i < w.heap.size := by
  intro i hi
  simp only [stS, List.mem_cons, List.mem_append] at hi
  rcases hi with rfl | rfl | hi | hi | hi
  · exact h.st.lt
  · exact h.mp_.lt
  · exact h.od.lt i hi
  · exact h.fl.lt i hi
  · obtain ⟨p, hp⟩ := h.page_of hi; exact Blk.lt hp
theorem StX.host (h : StX w q hp hb n a m s fp mp FS v B) : hp ∉ stS q mp FS v B ∧ hb ∉ stS q mp FS v B := by
  obtain ⟨_, hv, _, _, e1, e2, e3, e4, e5, e6, _⟩ := h.ne
  constructor
  · intro hi
    simp only [stS, List.mem_cons, List.mem_append] at hi
    rcases hi with hi | hi | hi | hi | hi
    · exact e1 hi
    · exact e3 hi
    · exact (hv _ hi).2.2.2.1 rfl
    · exact h.hs.1 hi
    · exact e5 hi
  · intro hi
    simp only [stS, List.mem_cons, List.mem_append] at hi
    rcases hi with hi | hi | hi | hi | hi
    · exact e2 hi
    · exact e4 hi
    · exact (hv _ hi).2.2.2.2 rfl
    · exact h.hs.2 hi
    · exact e6 hi
theorem StIn.chg (h : StIn w S q hp hb n a m s) (hc : Chg T w w') (hd : ∀ i ∈ S, i ∉ T) (h1 : hp ∉ T) (h2 : hb ∉ T) : StIn w' S q hp hb n a m s := by
  obtain ⟨fp, mp, FS, v, B, h, rfl⟩ := h
  exact ⟨fp, mp, FS, v, B, h.chg hc hd h1 h2, rfl⟩
theorem StIn.new (h : StIn w S q hp hb n a m s) (hc : Chg [] w w') : StIn w' S q hp hb n a m s := h.chg hc (by simp) (by simp) (by simp)
theorem StIn.lt (h : StIn w S q hp hb n a m s) : ∀ i ∈ S, i < w.heap.size := by
  obtain ⟨fp, mp, FS, v, B, h, rfl⟩ := h; exact h.lt
theorem StIn.host (h : StIn w S q hp hb n a m s) : hp ∉ S ∧ hb ∉ S := by
  obtain ⟨fp, mp, FS, v, B, h, rfl⟩ := h; exact h.host
theorem StIn.mem (h : StIn w S q hp hb n a m s) : MemAt w hp hb n s.W := by
  obtain ⟨fp, mp, FS, v, B, h, rfl⟩ := h; exact h.hm
theorem StIn.self (h : StIn w S q hp hb n a m s) : q ∈ S := by
  obtain ⟨fp, mp, FS, v, B, h, rfl⟩ := h; simp [stS]
/-- its four cells -/
theorem StX.c4 (h : StX w q hp hb n a m s fp mp FS v B) : w.cell? ⟨q, 0, none⟩ = some (.pointer (some ⟨hp, 0, none⟩)) ∧ w.cell? ⟨q, 1, none⟩ = some (.pointer (some ⟨fp, 0, none⟩)) ∧ w.cell? ⟨q, 2, none⟩ = some (.map (some mp)) ∧ w.cell? ⟨q, 3, none⟩ = some v :=
  ⟨h.st.cell 0, h.st.cell 1, h.st.cell 2, h.st.cell 3⟩
/-- a page that there is -/
theorem StX.at_ (h : StX w q hp hb n a m s fp mp FS v B) {f : Int} {p : Pg} (hp : pgAt s.L f = some p) : ∃ (i : Nat) (b : Nat), s.L[i]? = some p ∧ B[i]? = some b ∧ blkF s.L B f = some b ∧ PgB w b p ∧ p.f = f := by
  obtain ⟨i, b, h1, h2, h3⟩ := blkF_some h.bl hp
  exact ⟨i, b, h1, h2, h3, h.pg i p b h1 h2, (pgAt_mem hp).2⟩
end

theorem zeroPg (w : World) : (zeroValue 99).run Try.prog w = .ok (.pointer none) w := by kernel_rfl
/-- 's.pages[f]' -/
theorem StX.look {w : World} {q hp hb n a m fp mp : Nat} {s : Sr} {FS B : List Nat} {v : Value} (h : StX w q hp hb n a m s fp mp FS v B) (f : Int) (hf : -9223372036854775808 ≤ f ∧ f ≤ 9223372036854775807) :
    (Instr.lookup 88 (.map (some mp)) (.int .i64 f) false).run Try.prog w = .ok (ptrO (blkF s.L B f)) w :=
  h.mp_.look lawI Try.underlying88 Try.underlying3 zeroPg f (by rw [Lit.wf, Bool.and_eq_true, decide_eq_true_eq, decide_eq_true_eq]; exact hf)

end Go.Proofs.Ytpmfooeifhhfkaa
