/-
  The contracts of tlb's methods.
-/
import Derived.Test.YtikdoldmhlbklaaTlbE
import Derived.Shelf.Abstract
namespace Go.Proofs.Ytikdoldmhlbklaa
open Go.RowKit Go.Shelf

/-- no two hits are of one pair -/
def KeyN (L : List Ht) : Prop := L.Pairwise fun x y => y.isK x.a x.p = false
theorem isK_iff (h : Ht) (a p : Int) : h.isK a p = true ↔ h.a = a ∧ h.p = p := by simp [Ht.isK]
theorem isK_self (h : Ht) : h.isK h.a h.p = true := by simp [Ht.isK]
/-- what is left without the one of a pair; what stands behind a Put, a Flush, a Pick; what a Get tells -/
def dropT (L : List Ht) (a p : Int) : List Ht := L.filter fun h => !h.isK a p
def hasT (L : List Ht) (a p : Int) : Bool := L.any fun h => h.isK a p
def cutT (most : Nat) (M : List Ht) : List Ht := if M.length = most then M.drop 1 else M
def putT (most : Nat) (L : List Ht) (h : Ht) : List Ht := cutT most (dropT L h.a h.p) ++ [h]
def flushT (L : List Ht) (a : Int) : List Ht := L.filter fun h => !(h.a == a)
def pickI (m : Nat) (n : Int) : Nat := (Int.tmod (Int.tmod n m + m) m).toNat
def pickT (L : List Ht) (n : Int) : List Ht := L.eraseIdx (pickI L.length n)
def getT (L : List Ht) (a p : Int) : Ht := (L.find? fun h => h.isK a p).getD Ht.zero

theorem KeyN.sub {L M : List Ht} (h : KeyN L) (hs : List.Sublist M L) : KeyN M := List.Pairwise.sublist hs h
theorem dropT_len (L : List Ht) (a p : Int) : (dropT L a p).length ≤ L.length := List.length_filter_le _ _
theorem KeyN.dropT {L : List Ht} (h : KeyN L) (a p : Int) : KeyN (dropT L a p) := h.sub List.filter_sublist
theorem dropT_not (L : List Ht) (a p : Int) : ∀ x ∈ dropT L a p, x.isK a p = false := fun x hx => by
  unfold Go.Proofs.Ytikdoldmhlbklaa.dropT at hx
  rw [List.mem_filter] at hx
  simpa using hx.2
theorem cutT_sub (most : Nat) (M : List Ht) : List.Sublist (cutT most M) M := by
  unfold cutT; split
  · exact List.drop_sublist _ _
  · exact List.Sublist.refl _
theorem cutT_len {most : Nat} {M : List Ht} (h : M.length ≤ most) (h1 : 1 ≤ most) : (cutT most M).length + 1 ≤ most := by
  unfold cutT; split
  · simp; omega
  · omega
theorem KeyN.putT {most : Nat} {L : List Ht} (h : KeyN L) (x : Ht) : KeyN (putT most L x) := by
  unfold Go.Proofs.Ytikdoldmhlbklaa.putT KeyN
  rw [List.pairwise_append]
  refine ⟨(h.dropT x.a x.p).sub (cutT_sub _ _), by simp, fun y hy z hz => ?_⟩
  simp at hz; subst hz
  have := dropT_not L z.a z.p y ((cutT_sub most _).subset hy)
  rw [Bool.eq_false_iff, Ne, isK_iff] at this ⊢
  exact fun e => this ⟨e.1.symm, e.2.symm⟩
/-- the one of a pair struck is the list without it -/
theorem erase_key {L : List Ht} {a p : Int} {k : Nat} (h : KeyN L) (hk : k < L.length) (hx : (L.getD k default).isK a p = true) : L.eraseIdx k = dropT L a p := by
  have e : L = L.take k ++ (L.getD k default :: L.drop (k + 1)) := by
    rw [getD_lt hk, List.getElem_cons_drop, List.take_append_drop]
  rw [List.eraseIdx_eq_take_drop_succ]
  generalize L.getD k default = x at *
  unfold KeyN at h
  rw [e, List.pairwise_append, List.pairwise_cons] at h
  obtain ⟨_, ⟨h2, _⟩, h3⟩ := h
  rw [isK_iff] at hx
  unfold Go.Proofs.Ytikdoldmhlbklaa.dropT
  conv => rhs; rw [e, List.filter_append, List.filter_cons]
  rw [if_neg (by simp [Ht.isK, hx])]
  have f1 : (L.take k).filter (fun h => !h.isK a p) = L.take k := by
    rw [List.filter_eq_self]
    intro y hy
    have := h3 y hy x (by simp)
    rw [Bool.eq_false_iff, Ne, isK_iff] at this
    rw [Bool.not_eq_true', Bool.eq_false_iff, Ne, isK_iff]
    exact fun e => this ⟨by rw [hx.1, e.1], by rw [hx.2, e.2]⟩
  have f2 : (L.drop (k + 1)).filter (fun h => !h.isK a p) = L.drop (k + 1) := by
    rw [List.filter_eq_self]
    intro y hy
    have := h2 y hy
    rw [Bool.eq_false_iff, Ne, isK_iff] at this
    rw [Bool.not_eq_true', Bool.eq_false_iff, Ne, isK_iff]
    exact fun e => this ⟨by rw [hx.1, e.1], by rw [hx.2, e.2]⟩
  rw [f1, f2]
theorem first_cases (q : Ht → Bool) (L : List Ht) : (firstI q L = -1 ∧ (∀ h ∈ L, q h = false)) ∨ ∃ k, k < L.length ∧ firstI q L = (k : Int) ∧ q (L.getD k default) = true ∧ ∀ j, j < k → q (L.getD j default) = false := by
  by_cases hall : ∀ j, j < L.length → q (L.getD j default) = false
  · refine .inl ⟨first_miss hall, fun h hh => ?_⟩
    obtain ⟨j, hj, rfl⟩ := List.getElem_of_mem hh
    have := hall j hj
    rwa [getD_lt hj] at this
  · have : ∃ k, k < L.length ∧ q (L.getD k default) = true := by
      refine Classical.byContradiction fun hne => hall fun j hj => ?_
      cases hx : q (L.getD j default) with
      | false => rfl
      | true => exact absurd ⟨j, hj, hx⟩ hne
    obtain ⟨k, ⟨hk1, hk2⟩, hleast⟩ := exists_least this
    have hmin : ∀ j, j < k → q (L.getD j default) = false := fun j hj => by
      cases hx : q (L.getD j default) with
      | false => rfl
      | true => exact absurd (hleast j ⟨by omega, hx⟩) (by omega)
    exact .inr ⟨k, hk1, first_hit hk1 hk2 hmin, hk2, hmin⟩
theorem find_at {L : List Ht} {q : Ht → Bool} {k : Nat} (hk : k < L.length) (h1 : q (L.getD k default) = true) (h0 : ∀ j, j < k → q (L.getD j default) = false) : L.find? q = some (L.getD k default) := by
  rw [getD_lt hk] at h1 ⊢
  rw [List.find?_eq_some_iff_getElem]
  refine ⟨h1, k, hk, rfl, fun j hj => ?_⟩
  have := h0 j hj
  rw [getD_lt (by omega)] at this
  simp [this]

/-- p is what is known of pages: these hits, at most so many; they lie in v -/
structure TIn (w : World) (p most : Nat) (v : Value) (L : List Ht) : Prop where
  st : Blk w p 53 #[.int .i64 most, v]
  ow : OwnH w v L
  le : L.length ≤ most
  lo : 1 ≤ most
  hi : most ≤ 512
  nd : KeyN L
/-- .. its blocks are S -/
def TAt (w : World) (S : List Nat) (p most : Nat) (L : List Ht) : Prop := ∃ v, TIn w p most v L ∧ S = p :: v.ownBlock.toList

section
variable {w w' : World} {S T : List Nat} {p most : Nat} {v : Value} {L : List Ht}
theorem TIn.ne (h : TIn w p most v L) : ∀ g ∈ v.ownBlock.toList, g ≠ p := fun g hg => by
  obtain ⟨cur, hb⟩ := h.ow.blk hg
  exact hb.type_ne h.st (by decide)
theorem TIn.chg (h : TIn w p most v L) (hc : Chg T w w') (hp : p ∉ T) (hg : ∀ g ∈ v.ownBlock.toList, g ∉ T) : TIn w' p most v L :=
  ⟨hc.blk h.st hp, h.ow.chg hc hg, h.le, h.lo, h.hi, h.nd⟩
theorem TIn.c (h : TIn w p most v L) : w.cell? ⟨p, 0, none⟩ = some (.int .i64 most) ∧ w.cell? ⟨p, 1, none⟩ = some v := by
  have h0 := h.st.cell 0; have h1 := h.st.cell 1
  simp only [List.getElem?_toArray, List.getElem?_cons_succ, List.getElem?_cons_zero] at h0 h1
  exact ⟨h0, h1⟩
theorem TAt.chg (h : TAt w S p most L) (hc : Chg T w w') (hd : ∀ i ∈ S, i ∉ T) : TAt w' S p most L := by
  obtain ⟨v, h, rfl⟩ := h
  exact ⟨v, h.chg hc (hd p (by simp)) (fun g hg => hd g (by simp only [List.mem_cons]; exact .inr hg)), rfl⟩
theorem TAt.self (h : TAt w S p most L) (hc : Chg [] w w') : TAt w' S p most L := h.chg hc (by simp)
theorem TAt.lt (h : TAt w S p most L) : ∀ i ∈ S, i < w.heap.size := by
  obtain ⟨v, h, rfl⟩ := h
  intro i hi
  simp only [List.mem_cons] at hi
  rcases hi with rfl | hi
  · exact h.st.lt
  · exact h.ow.lt i hi
theorem TAt.le (h : TAt w S p most L) : L.length ≤ most := by obtain ⟨v, h, rfl⟩ := h; exact h.le
theorem TAt.lo (h : TAt w S p most L) : 1 ≤ most := by obtain ⟨v, h, rfl⟩ := h; exact h.lo
theorem TAt.hi (h : TAt w S p most L) : most ≤ 512 := by obtain ⟨v, h, rfl⟩ := h; exact h.hi
theorem TAt.nd (h : TAt w S p most L) : KeyN L := by obtain ⟨v, h, rfl⟩ := h; exact h.nd
end

set_option maxHeartbeats 400000 in
theorem TNew_no (n : Int) (w : World) (h : n < 1 ∨ 512 < n) :
    Calls Try.prog 11 #[.int .i64 n] w fun e w' => e = .returned (.pointer none) ∧ w = w' := by
  by_cases h1 : n < 1
  · clear h
    go_enter Try.func11, Try.ntmps11
    go_wp2
    all_goals go_ret
    all_goals exact ⟨rfl, rfl⟩
  · have h2 : 512 < n := by omega
    clear h
    go_enter Try.func11, Try.ntmps11
    go_wp2
    all_goals go_ret
    all_goals exact ⟨rfl, rfl⟩
set_option maxHeartbeats 400000 in
theorem TNew_in (n : Nat) (w : World) (h1 : 1 ≤ n) (h2 : n ≤ 512) :
    Calls Try.prog 11 #[.int .i64 n] w fun e w' => e = .returned (.pointer (some ⟨w.heap.size, 0, none⟩)) ∧ Chg [] w w' ∧ TAt w' [w.heap.size] w.heap.size n [] := by
  have e1 : ¬ (n : Int) < 1 := by omega
  have e2 : ¬ (n : Int) > 512 := by omega
  go_enter Try.func11, Try.ntmps11
  go_wp2
  all_goals go_ret
  all_goals exact ⟨rfl, (Chg.refl _ _).alloc _, .slice none 0 0, ⟨Blk.new w 53 #[.int .i64 n, .slice none 0 0], OwnH.none_ _, by simp, h1, h2, List.Pairwise.nil⟩, rfl⟩
theorem TNew_at (n : Nat) (w : World) (h1 : 1 ≤ n) (h2 : n ≤ 512) :
    Calls Try.prog 11 #[.int .i64 n] w fun e w' => ∃ p S, e = .returned (.pointer (some ⟨p, 0, none⟩)) ∧ Chg [] w w' ∧ TAt w' S p n [] ∧ ∀ i ∈ S, w.heap.size ≤ i :=
  (TNew_in n w h1 h2).mono fun _ _ ⟨he, hc, h⟩ => ⟨_, _, he, hc, h, by simp⟩

set_option maxHeartbeats 400000 in
theorem TMany_at (S : List Nat) (p most : Nat) (L : List Ht) (w : World) (h : TAt w S p most L) :
    Calls Try.prog 28 #[.pointer (some ⟨p, 0, none⟩)] w fun e w' => e = .returned (.int .i64 L.length) ∧ Chg [] w w' := by
  obtain ⟨v, h, rfl⟩ := h
  obtain ⟨c0, c1⟩ := h.c
  obtain ⟨A, c, rfl, _, _⟩ := h.ow.form
  clear h
  go_enter Try.func28, Try.ntmps28
  go_wp2
  go_ret
  exact ⟨rfl, Chg.refl _ _⟩

set_option maxHeartbeats 400000 in
theorem TAll_at (S : List Nat) (p most : Nat) (L : List Ht) (w : World) (h : TAt w S p most L) :
    Calls Try.prog 17 #[.pointer (some ⟨p, 0, none⟩)] w fun e w' => ∃ S', e = .returned (.tuple #[]) ∧ Chg S w w' ∧ TAt w' S' p most [] ∧ Grew w S S' := by
  obtain ⟨v, h, rfl⟩ := h
  obtain ⟨c0, c1⟩ := h.c
  have f1 := h.st.frozen 1
  go_enter Try.func17, Try.ntmps17
  go_wp2
  go_end0
  refine ⟨[p], rfl, (Chg.refl _ _).setCell (by simp) _, ⟨.slice none 0 0, ⟨?_, OwnH.none_ _, by simp, h.lo, h.hi, List.Pairwise.nil⟩, rfl⟩, fun i hi => .inl (by simp at hi; subst hi; simp)⟩
  exact h.st.set_ 1 _

set_option maxHeartbeats 1000000 in
theorem place_at (p most : Nat) (v : Value) (L : List Ht) (a pg : Int) (w : World) (h : TIn w p most v L) :
    Calls Try.prog 30 #[.pointer (some ⟨p, 0, none⟩), .agg #[.int .i64 a, .int .i64 pg]] w fun e w' => e = .returned (.int .i64 (firstI (fun h => h.isK a pg) L)) ∧ Chg [] w w' := by
  obtain ⟨c0, c1⟩ := h.c
  obtain ⟨A, c, rfl, _, _⟩ := h.ow.form
  have hlt := h.st.lt
  have hp : p ≠ w.heap.size := Nat.ne_of_lt hlt
  have hkb := Blk.new w 58 #[.int .i64 a, .int .i64 pg]
  have hc0 : Chg [] w (w.alloc (.cells #[.int .i64 a, .int .i64 pg] 58)) := (Chg.refl [] w).alloc _
  have eg : ∀ args w, (callFunc 36 args).run Try.prog w = .ok (.enter 36 args) w := enters_of Try.func36 (by kernel_rfl) rfl
  have hI := indexFunc_any (fun h => h.isK a pg) 36 w.heap.size eg A L.length c L (w.alloc (.cells #[.int .i64 a, .int .i64 pg] 58))
    (fun x W hc => placeP_any x w.heap.size a pg W (hc.blk hkb (by simp))) (h.ow.slh.new hc0)
  clear h hkb eg
  generalize firstI (fun h => h.isK a pg) L = r at *
  go_enter Try.func30, Try.ntmps30
  go_wp2_with fail
  refine hI.mono ?_; rintro e w' ⟨rfl, hc1⟩
  go_wp2_with fail
  go_ret
  exact ⟨rfl, hc0.trans hc1 (by simp)⟩

set_option maxHeartbeats 1000000 in
theorem remove_at (p most : Nat) (v : Value) (L : List Ht) (i : Nat) (w : World) (h : TIn w p most v L) (hi : i < L.length) :
    Calls Try.prog 31 #[.pointer (some ⟨p, 0, none⟩), .int .i64 i] w fun e w' => e = .returned (.tuple #[]) ∧ Chg (p :: v.ownBlock.toList) w w' ∧ ∃ v', TIn w' p most v' (L.eraseIdx i) ∧ v'.ownBlock = v.ownBlock := by
  obtain ⟨c0, c1⟩ := h.c
  have hne := h.ne
  obtain ⟨g, c, rfl⟩ := h.ow.pos_ (by omega)
  obtain ⟨tl, hr, _, hc1, hc2, hc3⟩ := h.ow.row
  have hD := delete_any g c i L tl w hr hi hc1 hc2 hc3
  have hgp : p ≠ g := fun e => hne g (by simp [Value.ownBlock]) e.symm
  have hst := h.st
  have hle := h.le; have hlo := h.lo; have hhi := h.hi
  have hN := h.nd
  have HE := Lib.hid (show (L.eraseIdx i).length = L.length - 1 from List.length_eraseIdx_of_lt hi)
  have hw64 : IntKind.i64.wrap ((i : Int) + 1) = (i : Int) + 1 := by rw [IntKind.wrap_i64]; omega
  clear h hr hc3 hne
  have HL : Hid (L.length ≤ most) := hle
  generalize hn : L.length = n at *
  have HN := Lib.hid hn
  clear hn
  go_enter Try.func31, Try.ntmps31
  go_wp2_with fail
  refine hD.mono ?_; rintro e w1 ⟨rfl, hch, ho⟩
  have hst1 := hch.blk hst (by simpa using hgp)
  have f1 := hst1.frozen 1
  have d1 := hst1.cell 1
  simp only [List.getElem?_toArray, List.getElem?_cons_succ, List.getElem?_cons_zero] at d1
  go_wp2_with fail
  go_end0
  have hcl : Chg [p] w1 (w1.setCell ⟨p, 1, none⟩ (.slice (some ⟨g, 0, none⟩) (n - 1) c)) := (Chg.refl _ _).setCell (by simp) _
  refine ⟨rfl, (hch.weak (by intro k _ hk; simp at hk; subst hk; simp [Value.ownBlock])).trans hcl (by intro k _ hk; simp at hk; subst hk; simp), .slice (some ⟨g, 0, none⟩) (n - 1) c, ⟨hst1.set_ 1 _, ho.chg hcl (by simp [Value.ownBlock]; exact fun e => hgp e.symm), by rw [HE.out]; omega, hlo, hhi, hN.sub (List.eraseIdx_sublist _ _)⟩, rfl⟩

end Go.Proofs.Ytikdoldmhlbklaa
