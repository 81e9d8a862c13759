/-
  TlbJ, TlbK, TlbL, TlbM, TlbN, TlbO in one text.
-/
import Derived.Test.YtgjfidjhbkaobaaG9a
namespace Go.Proofs.Ytgjfidjhbkaobaa
open Go.RowKit Go.Shelf

/-- are two lists of hits the same? -/
def eqHs (L M : List Ht) : Bool := decide (L = M)
theorem eqHs_self (L : List Ht) : eqHs L L = true := by simp [eqHs]
theorem eqHs_at {L M : List Ht} {k : Nat} (_hl : L.length = M.length) (_hk : k < L.length) (h : (L.getD k default).eqb (M.getD k default) = false) : eqHs L M = false := by
  unfold eqHs
  simp only [decide_eq_false_iff_not]
  rintro rfl
  rw [Ht.eqb_self] at h; cases h
theorem eqHs_all {L M : List Ht} (hl : L.length = M.length) (h : ∀ j, j < L.length → L.getD j default = M.getD j default) : eqHs L M = true := by
  unfold eqHs
  simp only [decide_eq_true_eq]
  apply List.ext_getElem hl
  intro i h1 h2
  have := h i h1
  rwa [getD_lt h1, getD_lt h2] at this

end Go.Proofs.Ytgjfidjhbkaobaa

namespace Go.Proofs.Ytgjfidjhbkaobaa
open Go.RowKit Go.Shelf

/-- p knows L, in blocks that are new since w0 and none of F; nothing of w0 has turned -/
def TB (w0 : World) (F : List Nat) (w : World) (p most : Nat) (L : List Ht) : Prop :=
  Chg [] w0 w ∧ (∀ i ∈ F, i < w.heap.size) ∧ ∃ S, TAt w S p most L ∧ ∀ i ∈ S, w0.heap.size ≤ i ∧ i ∉ F
/-- nothing of F has turned -/
def Far (F : List Nat) (w w' : World) : Prop := ∃ S, Chg S w w' ∧ ∀ i ∈ S, i ∉ F

section
variable {w0 w w' : World} {F G : List Nat} {p most : Nat} {L : List Ht}
theorem Far.slh {A : Option Addr} {n : Nat} {M : List Ht} (h : Far F w w') (hs : SlH w A n M) (hA : ∀ b off, A = some ⟨b, off, none⟩ → b ∈ F) : SlH w' A n M := by
  obtain ⟨S, hc, hd⟩ := h
  exact hs.chg hc fun b off e hm => hd b hm (hA b off e)
theorem Far.own {v : Value} {M : List Ht} (h : Far F w w') (hs : OwnH w v M) (hA : ∀ g ∈ v.ownBlock.toList, g ∈ F) : OwnH w' v M := by
  obtain ⟨S, hc, hd⟩ := h
  exact hs.chg hc fun g hg hm => hd g hm (hA g hg)
theorem Far.blkH {g : Nat} {x : Ht} (h : Far F w w') (hb : BlkH w g x) (hg : g ∈ F) : BlkH w' g x := by
  obtain ⟨S, hc, hd⟩ := h
  exact hb.chg hc fun hm => hd g hm hg
theorem TB.chg0 (h : TB w0 F w p most L) : Chg [] w0 w := h.1
theorem TB.new (h : TB w0 F w p most L) (hc : Chg [] w w') : TB w0 F w' p most L := by
  obtain ⟨h1, h2, S, h3, h4⟩ := h
  exact ⟨h1.trans hc (by simp), fun i hi => Nat.lt_of_lt_of_le (h2 i hi) hc.size, S, h3.self hc, h4⟩
/-- another thing that is of one's own turned -/
theorem TB.other (h : TB w0 F w p most L) {T : List Nat} (hc : Chg T w w') (hT : ∀ i ∈ T, i ∈ F) (hT0 : ∀ i ∈ T, w0.heap.size ≤ i) : TB w0 F w' p most L := by
  obtain ⟨h1, h2, S, h3, h4⟩ := h
  exact ⟨h1.trans hc (fun i hi hm => absurd (hT0 i hm) (by omega)), fun i hi => Nat.lt_of_lt_of_le (h2 i hi) hc.size, S, h3.chg hc (fun i hi hm => (h4 i hi).2 (hT i hm)), h4⟩
/-- what is new is apart, too -/
theorem TB.more (h : TB w0 F w p most L) (hc : Chg [] w w') (hG : ∀ i ∈ G, w.heap.size ≤ i ∧ i < w'.heap.size) : TB w0 (G ++ F) w' p most L := by
  obtain ⟨h1, h2, S, h3, h4⟩ := h
  refine ⟨h1.trans hc (by simp), fun i hi => ?_, S, h3.self hc, fun i hi => ⟨(h4 i hi).1, fun hm => ?_⟩⟩
  · rw [List.mem_append] at hi
    rcases hi with hi | hi
    · exact (hG i hi).2
    · exact Nat.lt_of_lt_of_le (h2 i hi) hc.size
  · rw [List.mem_append] at hm
    rcases hm with hm | hm
    · have := (hG i hm).1; have := h3.lt i hi; omega
    · exact (h4 i hi).2 hm
theorem TB.less (h : TB w0 F w p most L) (hG : ∀ i ∈ G, i ∈ F) : TB w0 G w p most L := by
  obtain ⟨h1, h2, S, h3, h4⟩ := h
  exact ⟨h1, fun i hi => h2 i (hG i hi), S, h3, fun i hi => ⟨(h4 i hi).1, fun hm => (h4 i hi).2 (hG i hm)⟩⟩
theorem TB.le (h : TB w0 F w p most L) : L.length ≤ most := by obtain ⟨_, _, S, h3, _⟩ := h; exact h3.le
theorem TB.lo (h : TB w0 F w p most L) : 1 ≤ most := by obtain ⟨_, _, S, h3, _⟩ := h; exact h3.lo
theorem TB.hi (h : TB w0 F w p most L) : most ≤ 512 := by obtain ⟨_, _, S, h3, _⟩ := h; exact h3.hi
theorem TB.nd (h : TB w0 F w p most L) : KeyN L := by obtain ⟨_, _, S, h3, _⟩ := h; exact h3.nd
end

theorem TNew_b (w0 : World) (n : Nat) (w : World) (h1 : 1 ≤ n) (h2 : n ≤ 512) (hc : Chg [] w0 w) :
    Calls Try.prog 44 #[.int .i64 n] w fun e w' => e = .returned (.pointer (some ⟨w.heap.size, 0, none⟩)) ∧ TB w0 [] w' w.heap.size n [] ∧ Chg [] w w' :=
  (TNew_in n w h1 h2).mono fun _ _ ⟨he, hch, h⟩ => ⟨he, ⟨hc.trans hch (by simp), by simp, _, h, by intro i hi; simp at hi; subst hi; exact ⟨hc.size, by simp⟩⟩, hch⟩

section
variable {w0 : World} {F : List Nat} {p most : Nat} {L : List Ht} {w : World}
theorem TB.step {S S' : List Nat} {w' : World} {M : List Ht} (h1 : Chg [] w0 w) (h2 : ∀ i ∈ F, i < w.heap.size) (h4 : ∀ i ∈ S, w0.heap.size ≤ i ∧ i ∉ F) (hc : Chg S w w') (ht : TAt w' S' p most M) (hG : Grew w S S') : TB w0 F w' p most M ∧ Far F w w' := by
  refine ⟨⟨h1.trans hc (fun i hi hm => absurd (h4 i hm).1 (by omega)), fun i hi => Nat.lt_of_lt_of_le (h2 i hi) hc.size, S', ht, fun i hi => ?_⟩, S, hc, fun i hi => (h4 i hi).2⟩
  rcases hG i hi with h | h
  · exact h4 i h
  · exact ⟨Nat.le_trans h1.size h, fun hm => absurd (h2 i hm) (by omega)⟩
theorem TPut_b (x : Ht) (h : TB w0 F w p most L) :
    Calls Try.prog 14 #[.pointer (some ⟨p, 0, none⟩), x.v] w fun e w' => e = .returned (.tuple #[]) ∧ TB w0 F w' p most (putT most L x) ∧ Far F w w' := by
  obtain ⟨h1, h2, S, h3, h4⟩ := h
  exact (TPut_at S p most L x w h3).mono fun _ _ ⟨S', he, hc, ht, hG⟩ => ⟨he, TB.step h1 h2 h4 hc ht hG⟩
theorem TDrop_b (a pg : Int) (h : TB w0 F w p most L) :
    Calls Try.prog 50 #[.pointer (some ⟨p, 0, none⟩), .int .i64 a, .int .i64 pg] w fun e w' => e = .returned (.bool (hasT L a pg)) ∧ TB w0 F w' p most (dropT L a pg) ∧ Far F w w' := by
  obtain ⟨h1, h2, S, h3, h4⟩ := h
  exact (TDrop_at S p most L a pg w h3).mono fun _ _ ⟨he, hc, ht⟩ => ⟨he, TB.step h1 h2 h4 hc ht (Grew.refl _ _)⟩
theorem TAll_b (h : TB w0 F w p most L) :
    Calls Try.prog 60 #[.pointer (some ⟨p, 0, none⟩)] w fun e w' => e = .returned (.tuple #[]) ∧ TB w0 F w' p most [] ∧ Far F w w' := by
  obtain ⟨h1, h2, S, h3, h4⟩ := h
  exact (TAll_at S p most L w h3).mono fun _ _ ⟨S', he, hc, ht, hG⟩ => ⟨he, TB.step h1 h2 h4 hc ht hG⟩
theorem TMany_b (h : TB w0 F w p most L) :
    Calls Try.prog 19 #[.pointer (some ⟨p, 0, none⟩)] w fun e w' => e = .returned (.int .i64 L.length) ∧ TB w0 F w' p most L ∧ Chg [] w w' := by
  have h0 := h
  obtain ⟨h1, h2, S, h3, h4⟩ := h
  exact (TMany_at S p most L w h3).mono fun _ _ ⟨he, hc⟩ => ⟨he, h0.new hc, hc⟩
end

end Go.Proofs.Ytgjfidjhbkaobaa

namespace Go.Proofs.Ytgjfidjhbkaobaa
open Go.RowKit Go.Shelf

section
variable {w0 : World} {F : List Nat} {p most : Nat} {L : List Ht} {w : World}
theorem TPut_c (a pg f : Int) (tw tu tx td : Bool) (M : List Ht) (hM : putT most L ⟨a, pg, f, tw, tu, tx, td⟩ = M) (h : TB w0 F w p most L) :
    Calls Try.prog 14 #[.pointer (some ⟨p, 0, none⟩), .agg #[.int .i64 a, .int .i64 pg, .int .i64 f, .bool tw, .bool tu, .bool tx, .bool td]] w fun e w' => e = .returned (.tuple #[]) ∧ TB w0 F w' p most M ∧ Far F w w' := hM ▸ TPut_b ⟨a, pg, f, tw, tu, tx, td⟩ h
end
theorem SlH.two {w : World} {g : Nat} {x y : Ht} (h : Blk w g 46 (encH [x, y]).toArray) : SlH w (some ⟨g, 0, none⟩) 2 [x, y] := by
  have hr : RowH w g [x, y] [] := by unfold RowH; rw [List.append_nil]; exact h
  exact (hr.own_all 2 (by simp) (by decide)).slh

def hA : Ht := ⟨1, 5, 7, false, false, false, false⟩
def hB : Ht := ⟨2, 5, 8, false, false, false, false⟩
def hC : Ht := ⟨1, 6, 9, false, false, false, false⟩

end Go.Proofs.Ytgjfidjhbkaobaa

namespace Go.Proofs.Ytgjfidjhbkaobaa
open Go.RowKit Go.Shelf

/-- what is known behind the first k Puts -/
def putsT (most : Nat) (l : List Ht) (k : Nat) : List Ht := (l.take k).foldl (putT most) []
theorem putsT_zero (most : Nat) (l : List Ht) : putsT most l 0 = [] := by simp [putsT]
theorem putsT_succ (most : Nat) (l : List Ht) {k : Nat} (hk : k < l.length) : putsT most l (k + 1) = putT most (putsT most l k) (l.getD k default) := by
  unfold putsT
  rw [List.take_succ_eq_append_getElem hk, List.foldl_append, getD_lt hk]; rfl

theorem putT_pos (most : Nat) (L : List Ht) (h : Ht) : 0 < (putT most L h).length := by simp [putT]
theorem puts_ne (most : Nat) (l : List Ht) (k : Nat) : k ≤ l.length → 0 < k → 0 < (putsT most l k).length := fun hk h0 => by
  obtain ⟨j, rfl⟩ : ∃ j, k = j + 1 := ⟨k - 1, by omega⟩
  rw [putsT_succ most l (by omega)]; exact putT_pos _ _ _

section
variable {w0 w w' : World} {F : List Nat} {p most : Nat} {L M : List Ht} {v v' : Value}
/-- a list of one's own that is apart from what is known -/
def LB (w0 : World) (F : List Nat) (w : World) (v : Value) (M : List Ht) : Prop := OwnH w v M ∧ ∀ g ∈ v.ownBlock.toList, g ∈ F ∧ w0.heap.size ≤ g
theorem LB.nil (w0 w : World) (F : List Nat) : LB w0 F w (.slice none 0 0) [] := ⟨OwnH.none_ w, by simp [Value.ownBlock]⟩
theorem LB.far (h : LB w0 F w v M) (hf : Far F w w') : LB w0 F w' v M := ⟨hf.own h.1 fun g hg => (h.2 g hg).1, h.2⟩
theorem LB.new (h : LB w0 F w v M) (hc : Chg [] w w') : LB w0 F w' v M := ⟨h.1.chg hc (by simp), h.2⟩
theorem LB.more {G : List Nat} (h : LB w0 F w v M) : LB w0 (G ++ F) w v M := ⟨h.1, fun g hg => ⟨List.mem_append.2 (.inr (h.2 g hg).1), (h.2 g hg).2⟩⟩
/-- something was appended to it -/
theorem TB.app (h : TB w0 F w p most L) (hl : LB w0 F w v M) {M' : List Ht} (ho : OwnH w' v' M') (hc : Chg v.ownBlock.toList w w') (hb : v'.ownBlock = v.ownBlock ∨ v'.ownBlock = some w.heap.size) :
    TB w0 (v'.ownBlock.toList ++ F) w' p most L ∧ LB w0 (v'.ownBlock.toList ++ F) w' v' M' := by
  have hT := h.other hc (fun i hi => (hl.2 i hi).1) (fun i hi => (hl.2 i hi).2)
  have h0 := h.1
  obtain ⟨k1, k2, S, k3, k4⟩ := hT
  obtain ⟨_, _, S0, j3, j4⟩ := h
  have hnew : ∀ g ∈ v'.ownBlock.toList, g ∈ F ∧ w0.heap.size ≤ g ∨ g = w.heap.size := fun g hg => by
    rcases hb with e | e
    · rw [e] at hg; exact .inl (hl.2 g hg)
    · rw [e] at hg; simp at hg; exact .inr hg
  have hS0 : TAt w' S0 p most L := j3.chg hc (fun i hi hm => (j4 i hi).2 (hl.2 i hm).1)
  refine ⟨⟨k1, fun i hi => ?_, S0, hS0, fun i hi => ⟨(j4 i hi).1, fun hm => ?_⟩⟩, ho, fun g hg => ⟨List.mem_append.2 (.inl hg), ?_⟩⟩
  · rw [List.mem_append] at hi
    rcases hi with hi | hi
    · exact ho.lt i hi
    · exact k2 i hi
  · rw [List.mem_append] at hm
    rcases hm with hm | hm
    · rcases hnew i hm with h | h
      · exact (j4 i hi).2 h.1
      · have := j3.lt i hi; omega
    · exact (j4 i hi).2 hm
  · rcases hnew g hg with h | h
    · exact h.2
    · rw [h]; exact h0.size
end

/-- the operands of an append of one hit: at the world behind its own block -/
theorem LB.alloc {w0 w : World} {F : List Nat} {v : Value} {M : List Ht} (h : LB w0 F w v M) (o : Obj) : LB w0 F (w.alloc o) v M := h.new ((Chg.refl [] w).alloc o)
theorem TB.alloc {w0 w : World} {F : List Nat} {p most : Nat} {L : List Ht} (h : TB w0 F w p most L) (o : Obj) : TB w0 F (w.alloc o) p most L := h.new ((Chg.refl [] w).alloc o)

end Go.Proofs.Ytgjfidjhbkaobaa

namespace Go.Proofs.Ytgjfidjhbkaobaa
open Go.RowKit Go.Shelf

theorem putT_len {most : Nat} {L : List Ht} (h : Ht) (hl : L.length ≤ most) (h1 : 1 ≤ most) : (putT most L h).length ≤ most := by
  unfold putT
  rw [List.length_append]
  exact cutT_len (Nat.le_trans (dropT_len _ _ _) hl) h1
theorem putsT_le {most : Nat} (l : List Ht) (h1 : 1 ≤ most) : ∀ k, k ≤ l.length → (putsT most l k).length ≤ most
  | 0, _ => by rw [putsT_zero]; exact Nat.zero_le _
  | k + 1, hk => by rw [putsT_succ most l (by omega)]; exact putT_len _ (putsT_le l h1 k (by omega)) h1
theorem putsT_nd {most : Nat} (l : List Ht) : ∀ k, k ≤ l.length → KeyN (putsT most l k)
  | 0, _ => by rw [putsT_zero]; exact List.Pairwise.nil
  | k + 1, hk => by rw [putsT_succ most l (by omega)]; exact (putsT_nd l k (by omega)).putT _

/-- the last one first -/
theorem putT_rev {n : Nat} {L : List Ht} (h : Ht) (hl : L.length ≤ n) (h1 : 1 ≤ n) : (putT n L h).reverse = h :: ((L.reverse.filter fun x => !x.isK h.a h.p).take (n - 1)) := by
  unfold putT
  rw [List.reverse_append, List.reverse_singleton, List.singleton_append]
  congr 1
  unfold cutT dropT
  rw [List.filter_reverse]
  generalize hM : L.filter (fun x => !x.isK h.a h.p) = M
  have hm : M.length ≤ n := by rw [← hM]; exact Nat.le_trans (List.length_filter_le _ _) hl
  split
  · rename_i e
    rw [List.reverse_drop, e]
  · rw [List.take_of_length_le (by rw [List.length_reverse]; omega)]

theorem mem_take_filter {p : Ht → Bool} {x : Ht} : ∀ {l : List Ht} {j : Nat}, x ∈ l.take j → p x = true → x ∈ (l.filter p).take j
  | [], j, h, _ => by simp at h
  | y :: t, 0, h, _ => by simp at h
  | y :: t, j + 1, h, hp => by
    rw [List.take_succ_cons, List.mem_cons] at h
    cases hy : p y with
    | true =>
      rw [List.filter_cons_of_pos hy, List.take_succ_cons, List.mem_cons]
      exact h.imp id fun h => mem_take_filter h hp
    | false =>
      rw [List.filter_cons_of_neg (by simp [hy])]
      rcases h with rfl | h
      · rw [hp] at hy; cases hy
      · exact List.mem_of_mem_take (i := j) (by rw [List.take_take, Nat.min_eq_left (by omega)]; exact mem_take_filter h hp)
theorem take_filter_one {p : Ht → Bool} : ∀ {l : List Ht} {k : Nat}, l.Pairwise (fun a b => p a = true ∨ p b = true) → ((l.take (k + 1)).filter p).take k = (l.filter p).take k
  | [], k, _ => by simp
  | x :: t, k, h => by
    rw [List.pairwise_cons] at h
    rw [List.take_succ_cons]
    cases hx : p x with
    | true =>
      rw [List.filter_cons_of_pos hx, List.filter_cons_of_pos hx]
      cases k with
      | zero => simp
      | succ k => rw [List.take_succ_cons, List.take_succ_cons, take_filter_one h.2]
    | false =>
      rw [List.filter_cons_of_neg (by simp [hx]), List.filter_cons_of_neg (by simp [hx])]
      have hall : ∀ y ∈ t, p y = true := fun y hy => (h.1 y hy).resolve_left (by simp [hx])
      rw [List.filter_eq_self.2 hall, List.filter_eq_self.2 (fun y hy => hall y (List.mem_of_mem_take hy)), List.take_take, Nat.min_self]
/-- what n of them know is the last of what more of them know -/
theorem puts_within {n m : Nat} (l : List Ht) (h1 : 1 ≤ n) (hnm : n ≤ m) : ∀ k, k ≤ l.length → (putsT n l k).reverse = (putsT m l k).reverse.take n
  | 0, _ => by simp [putsT_zero]
  | k + 1, hk => by
    have ih := puts_within l h1 hnm k (by omega)
    have hA := putsT_le (most := n) l h1 k (by omega)
    have hB := putsT_le (most := m) l (by omega) k (by omega)
    have hnd := putsT_nd (most := m) l k (by omega)
    rw [putsT_succ n l (by omega), putsT_succ m l (by omega)]
    generalize l.getD k default = h
    rw [putT_rev h hA h1, putT_rev h hB (by omega), ih]
    generalize putsT m l k = B at *
    obtain ⟨n, rfl⟩ : ∃ j, n = j + 1 := ⟨n - 1, by omega⟩
    rw [List.take_succ_cons, Nat.add_sub_cancel, List.take_take, Nat.min_eq_left (by omega)]
    congr 1
    refine take_filter_one ?_
    rw [List.pairwise_reverse]
    refine hnd.imp fun {a b} e => ?_
    rw [Bool.eq_false_iff, Ne, isK_iff] at e
    cases ha : a.isK h.a h.p with
    | false => right; rfl
    | true =>
      cases hb : b.isK h.a h.p with
      | false => left; rfl
      | true =>
        rw [isK_iff] at ha hb
        exact absurd ⟨by rw [hb.1, ha.1], by rw [hb.2, ha.2]⟩ e
theorem within_drop {n m : Nat} (l : List Ht) (h1 : 1 ≤ n) (hnm : n ≤ m) {k : Nat} (hk : k ≤ l.length) :
    (putsT n l k).length ≤ (putsT m l k).length ∧ putsT n l k = (putsT m l k).drop ((putsT m l k).length - (putsT n l k).length) := by
  have h := puts_within l h1 hnm k hk
  have h2 := congrArg List.reverse h
  rw [List.reverse_reverse, List.reverse_take, List.reverse_reverse, List.length_reverse] at h2
  have h3 := congrArg List.length h
  rw [List.length_reverse, List.length_take, List.length_reverse] at h3
  refine ⟨by omega, ?_⟩
  rw [h3]
  conv => lhs; rw [h2]
  rcases Nat.lt_or_ge n (putsT m l k).length with h | h
  · rw [Nat.min_eq_left (by omega)]
  · rw [Nat.min_eq_right h, Nat.sub_eq_zero_of_le h, Nat.sub_self]
/-- the last ones that were put are there -/
theorem puts_last {n : Nat} (l : List Ht) (h1 : 1 ≤ n) : ∀ i, i ≤ l.length → ∀ k, k < i → i - k ≤ n → ∃ x ∈ (putsT n l i).reverse.take (i - k), x.isK (l.getD k default).a (l.getD k default).p = true
  | 0, _, k, hk, _ => by omega
  | i + 1, hi, k, hk, hn => by
    have hA := putsT_le (most := n) l h1 i (by omega)
    rw [putsT_succ n l (by omega), putT_rev _ hA h1]
    obtain ⟨j, hj⟩ : ∃ j, i + 1 - k = j + 1 := ⟨i - k, by omega⟩
    rw [hj, List.take_succ_cons]
    cases hy : (l.getD i default).isK (l.getD k default).a (l.getD k default).p with
    | true => exact ⟨_, List.mem_cons_self, hy⟩
    | false =>
      have hki : k < i := by
        rcases Nat.lt_or_ge k i with h | h
        · exact h
        · obtain rfl : k = i := by omega
          rw [isK_self] at hy; cases hy
      obtain ⟨x, hx, hxk⟩ := puts_last l h1 i (by omega) k hki (by omega)
      refine ⟨x, List.mem_cons_of_mem _ ?_, hxk⟩
      rw [List.take_take, Nat.min_eq_left (by omega), show j = i - k by omega]
      refine mem_take_filter hx ?_
      rw [Bool.not_eq_true', Bool.eq_false_iff, Ne, isK_iff]
      rw [isK_iff] at hxk
      rw [Bool.eq_false_iff, Ne, isK_iff] at hy
      exact fun e => hy ⟨by rw [← e.1, hxk.1], by rw [← e.2, hxk.2]⟩
theorem puts_has {n : Nat} (l : List Ht) (h1 : 1 ≤ n) {i : Nat} (hi : i ≤ l.length) {k : Nat} (hk : k < i) (hn : i - k ≤ n) : hasT (putsT n l i) (l.getD k default).a (l.getD k default).p = true := by
  obtain ⟨x, hx, hxk⟩ := puts_last l h1 i hi k hk hn
  unfold hasT
  rw [List.any_eq_true]
  exact ⟨x, by have := List.mem_of_mem_take hx; simpa using this, hxk⟩

/-- two of them, apart, in blocks that are new since w0 -/
def TP (w0 w : World) (p n : Nat) (L : List Ht) (q m : Nat) (M : List Ht) : Prop :=
  Chg [] w0 w ∧ ∃ S T, TAt w S p n L ∧ TAt w T q m M ∧ (∀ i ∈ S, w0.heap.size ≤ i) ∧ (∀ i ∈ T, w0.heap.size ≤ i) ∧ ∀ i ∈ S, i ∉ T
section
variable {w0 w w' : World} {p n q m : Nat} {L M : List Ht}
theorem TP.new (h : TP w0 w p n L q m M) (hc : Chg [] w w') : TP w0 w' p n L q m M := by
  obtain ⟨h1, S, T, h2, h3, h4, h5, h6⟩ := h
  exact ⟨h1.trans hc (by simp), S, T, h2.self hc, h3.self hc, h4, h5, h6⟩
theorem TP.swap (h : TP w0 w p n L q m M) : TP w0 w q m M p n L := by
  obtain ⟨h1, S, T, h2, h3, h4, h5, h6⟩ := h
  exact ⟨h1, T, S, h3, h2, h5, h4, dis_symm h6⟩
theorem TP.put (x : Ht) (h : TP w0 w p n L q m M) :
    Calls Try.prog 14 #[.pointer (some ⟨p, 0, none⟩), x.v] w fun e w' => e = .returned (.tuple #[]) ∧ TP w0 w' p n (putT n L x) q m M := by
  obtain ⟨h1, S, T, h2, h3, h4, h5, h6⟩ := h
  refine (TPut_at S p n L x w h2).mono fun _ w' ⟨S', he, hc, ht, hG⟩ => ⟨he, h1.trans hc (fun i hi hm => absurd (h4 i hm) (by omega)), S', T, ht, h3.chg hc (dis_symm h6), grew_base hG h1.size h4, h5, grew_dis hG h6 h3.lt⟩
end

end Go.Proofs.Ytgjfidjhbkaobaa

namespace Go.Proofs.Ytgjfidjhbkaobaa
open Go.RowKit Go.Shelf

/-- a call: what, the hit, the number -/
structure OpT where
  what : Int
  h : Ht
  n : Int
instance OpT.inh : Inhabited OpT := ⟨⟨0, Ht.zero, 0⟩⟩
/-- it lies here -/
structure OpC (w : World) (b o : Nat) (x : OpT) : Prop where
  c0 : w.cell? ⟨b, o, none⟩ = some (.int .i64 x.what)
  c1 : w.cell? ⟨b, o + 1, none⟩ = some (.int .i64 x.h.a)
  c2 : w.cell? ⟨b, o + 2, none⟩ = some (.int .i64 x.h.p)
  c3 : w.cell? ⟨b, o + 3, none⟩ = some (.int .i64 x.h.f)
  c4 : w.cell? ⟨b, o + 4, none⟩ = some (.bool x.h.w)
  c5 : w.cell? ⟨b, o + 5, none⟩ = some (.bool x.h.u)
  c6 : w.cell? ⟨b, o + 6, none⟩ = some (.bool x.h.x)
  c7 : w.cell? ⟨b, o + 7, none⟩ = some (.bool x.h.d)
  c8 : w.cell? ⟨b, o + 8, none⟩ = some (.int .i64 x.n)
  wf : -9223372036854775808 ≤ x.n ∧ x.n ≤ 9223372036854775807
theorem OpC.chg {S : List Nat} {w w' : World} {b o : Nat} {x : OpT} (h : OpC w b o x) (hc : Chg S w w') (hb : b < w.heap.size) (hn : b ∉ S) : OpC w' b o x :=
  have e : ∀ i, w'.cell? ⟨b, i, none⟩ = w.cell? ⟨b, i, none⟩ := fun i => hc.cell (p := ⟨b, i, none⟩) hb hn
  ⟨(e _).trans h.c0, (e _).trans h.c1, (e _).trans h.c2, (e _).trans h.c3, (e _).trans h.c4, (e _).trans h.c5, (e _).trans h.c6, (e _).trans h.c7, (e _).trans h.c8, h.wf⟩
/-- a slice of calls, nil let in -/
structure SlO (w : World) (A : Option Addr) (n : Nat) : Prop where
  le : n ≤ 9223372036854775807
  at_ : 0 < n → ∃ b off, A = some ⟨b, off, none⟩ ∧ b < w.heap.size ∧ ∀ j, j < n → ∃ x, OpC w b (off + j * 9) x
theorem SlO.new {w w' : World} {A : Option Addr} {n : Nat} (h : SlO w A n) (hc : Chg [] w w') : SlO w' A n :=
  ⟨h.le, fun h0 => by
    obtain ⟨b, off, e, hb, hr⟩ := h.at_ h0
    exact ⟨b, off, e, Nat.lt_of_lt_of_le hb hc.size, fun j hj => by obtain ⟨x, hx⟩ := hr j hj; exact ⟨x, hx.chg hc hb (by simp)⟩⟩⟩
theorem SlO.get {w : World} {A : Option Addr} {n : Nat} (h : SlO w A n) {k : Nat} (hk : k < n) : ∃ b off x, A = some ⟨b, off, none⟩ ∧ b < w.heap.size ∧ OpC w b (off + k * 9) x := by
  obtain ⟨b, off, e, hb, hr⟩ := h.at_ (by omega)
  obtain ⟨x, hx⟩ := hr k hk
  exact ⟨b, off, x, e, hb, hx⟩

theorem Far.blk {F : List Nat} {w w' : World} {g : Nat} {t : TypeId} {cs : Array Value} (h : Far F w w') (hb : Blk w g t cs) (hg : g ∈ F) : Blk w' g t cs := by
  obtain ⟨S, hc, hd⟩ := h
  exact hc.blk hb fun hm => hd g hm hg

/-- what is told of the pair (a, p): whether it is there, and what it is then -/
def Tells (L : List Ht) (a p : Int) (t : Bool) (x : Ht) : Prop := hasT L a p = t ∧ (t = true → getT L a p = x)
section
variable {L : List Ht} {a p : Int} {t : Bool} {x : Ht}
theorem getT_none (h : hasT L a p = false) : getT L a p = Ht.zero := by
  unfold hasT at h
  rw [List.any_eq_false] at h
  unfold getT
  rw [List.find?_eq_none.2 fun x hx => by simpa using h x hx]; rfl
theorem Tells.nil (a p : Int) (x : Ht) : Tells [] a p false x := ⟨rfl, by simp⟩
theorem Tells.filter_same {q : Ht → Bool} (h : Tells L a p t x) (hq : ∀ y : Ht, y.isK a p = true → q y = true) : Tells (L.filter q) a p t x := by
  have e1 : hasT (L.filter q) a p = hasT L a p := by
    unfold hasT
    rw [List.any_filter]
    congr 1
    funext y
    cases hy : y.isK a p with
    | true => simp [hq y hy]
    | false => simp
  have e2 : getT (L.filter q) a p = getT L a p := by
    unfold getT
    rw [List.find?_filter]
    congr 2
    funext y
    cases hy : y.isK a p with
    | true => simp [hq y hy]
    | false => simp
  exact ⟨e1.trans h.1, fun ht => e2.trans (h.2 ht)⟩
theorem Tells.filter_none {q : Ht → Bool} (hq : ∀ y : Ht, y.isK a p = true → q y = false) (x : Ht) : Tells (L.filter q) a p false x := by
  refine ⟨?_, by simp⟩
  unfold hasT
  rw [List.any_eq_false]
  intro y hy
  rw [List.mem_filter] at hy
  intro hk
  rw [hq y hk] at hy
  simp at hy
theorem Tells.drop_mine (_h : Tells L a p t x) (x' : Ht) : Tells (dropT L a p) a p false x' := Tells.filter_none (fun y hy => by simp [hy]) x'
theorem Tells.drop_other (h : Tells L a p t x) {b q : Int} (hn : ¬ (b = a ∧ q = p)) : Tells (dropT L b q) a p t x := h.filter_same fun y hy => by
  rw [isK_iff] at hy
  rw [Bool.not_eq_true', Bool.eq_false_iff, Ne, isK_iff]
  exact fun e => hn ⟨by rw [← e.1, hy.1], by rw [← e.2, hy.2]⟩
theorem Tells.flush_mine (_h : Tells L a p t x) (x' : Ht) : Tells (flushT L a) a p false x' := Tells.filter_none (fun y hy => by rw [isK_iff] at hy; simp [hy.1]) x'
theorem Tells.flush_other (h : Tells L a p t x) {b : Int} (hn : b ≠ a) : Tells (flushT L b) a p t x := h.filter_same fun y hy => by
  rw [isK_iff] at hy
  simp [hy.1]; exact fun e => hn e.symm
theorem putT_few {most : Nat} {h : Ht} (hl : L.length < most) : putT most L h = dropT L h.a h.p ++ [h] := by
  unfold putT cutT
  rw [if_neg (by have := dropT_len L h.a h.p; omega)]
theorem Tells.put_mine {h : Ht} (H : Tells L a p t x) {most : Nat} (hl : L.length < most) (hk : h.a = a ∧ h.p = p) : Tells (putT most L h) a p true h := by
  rw [putT_few hl, hk.1, hk.2]
  have hd := (H.drop_mine x).1
  unfold hasT at hd
  refine ⟨by unfold hasT; simp [Ht.isK, hk], fun _ => ?_⟩
  unfold getT
  rw [List.find?_append, List.find?_eq_none.2 (fun y hy => by rw [List.any_eq_false] at hd; exact hd y hy)]
  simp [Ht.isK, hk]
theorem Tells.put_other {h : Ht} (H : Tells L a p t x) {most : Nat} (hl : L.length < most) (hk : ¬ (h.a = a ∧ h.p = p)) : Tells (putT most L h) a p t x := by
  rw [putT_few hl]
  have hd := H.drop_other hk
  have hf : h.isK a p = false := by rw [Bool.eq_false_iff, Ne, isK_iff]; exact hk
  refine ⟨?_, fun ht => ?_⟩
  · have := hd.1
    unfold hasT at this ⊢
    rw [List.any_append, this]; simp [hf]
  · have := hd.2 ht
    unfold getT at this ⊢
    rw [List.find?_append]
    have e : (([h] : List Ht).find? fun h => h.isK a p) = none := by simp [hf]
    rw [e, Option.or_none]; exact this
theorem Tells.get (H : Tells L a p t x) : getT L a p = if t then x else Ht.zero := by
  cases t with
  | true => exact H.2 rfl
  | false => exact getT_none H.1
theorem putT_len1 (most : Nat) (h : Ht) : (putT most L h).length ≤ L.length + 1 := by
  unfold putT
  rw [List.length_append]
  have := (cutT_sub most (dropT L h.a h.p)).length_le
  have := dropT_len L h.a h.p
  simp; omega
theorem flushT_len (L : List Ht) (a : Int) : (flushT L a).length ≤ L.length := List.length_filter_le _ _
end

end Go.Proofs.Ytgjfidjhbkaobaa
