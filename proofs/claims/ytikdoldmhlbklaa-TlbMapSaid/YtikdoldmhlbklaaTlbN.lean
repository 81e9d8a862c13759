/-
  Plain facts on what is known behind Puts: the last ones; a larger one knows more. Two of them beside one another.
-/
import Derived.Test.YtikdoldmhlbklaaTlbM
namespace Go.Proofs.Ytikdoldmhlbklaa
open Go.RowKit Go.Shelf

theorem putT_len {most : Nat} {L : List Ht} (h : Ht) (hl : L.length ≤ most) (h1 : 1 ≤ most) : (putT most L h).length ≤ most := by
  unfold putT
  rw [List.length_append]
  exact cutT_len (Nat.le_trans (dropT_len _ _ _) hl) h1
theorem putsT_le {most : Nat} (l : List Ht) (h1 : 1 ≤ most) : ∀ k, k ≤ l.length → (putsT most l k).length ≤ most
  | 0, _ => by rw [putsT_zero]; exact Nat.zero_le _
  | k + 1, hk => by rw [putsT_succ most l (by omega)]; exact putT_len _ (putsT_le l h1 k (by omega)) h1
theorem putsT_nd {most : Nat} (l : List Ht) : ∀ k, k ≤ l.length → KeyN (putsT most l k)
  | 0, _ => by rw [putsT_zero]; exact List.Pairwise.nil
  | k + 1, hk => by rw [putsT_succ most l (by omega)]; exact (putsT_nd l k (by omega)).putT _

/-- the last one first -/
theorem putT_rev {n : Nat} {L : List Ht} (h : Ht) (hl : L.length ≤ n) (h1 : 1 ≤ n) : (putT n L h).reverse = h :: ((L.reverse.filter fun x => !x.isK h.a h.p).take (n - 1)) := by
  unfold putT
  rw [List.reverse_append, List.reverse_singleton, List.singleton_append]
  congr 1
  unfold cutT dropT
  rw [List.filter_reverse]
  generalize hM : L.filter (fun x => !x.isK h.a h.p) = M
  have hm : M.length ≤ n := by rw [← hM]; exact Nat.le_trans (List.length_filter_le _ _) hl
  split
  · rename_i e
    rw [List.reverse_drop, e]
  · rw [List.take_of_length_le (by rw [List.length_reverse]; omega)]

theorem mem_take_filter {p : Ht → Bool} {x : Ht} : ∀ {l : List Ht} {j : Nat}, x ∈ l.take j → p x = true → x ∈ (l.filter p).take j
  | [], j, h, _ => by simp at h
  | y :: t, 0, h, _ => by simp at h
  | y :: t, j + 1, h, hp => by
    rw [List.take_succ_cons, List.mem_cons] at h
    cases hy : p y with
    | true =>
      rw [List.filter_cons_of_pos hy, List.take_succ_cons, List.mem_cons]
      exact h.imp id fun h => mem_take_filter h hp
    | false =>
      rw [List.filter_cons_of_neg (by simp [hy])]
      rcases h with rfl | h
      · rw [hp] at hy; cases hy
      · exact List.mem_of_mem_take (i := j) (by rw [List.take_take, Nat.min_eq_left (by omega)]; exact mem_take_filter h hp)
theorem take_filter_one {p : Ht → Bool} : ∀ {l : List Ht} {k : Nat}, l.Pairwise (fun a b => p a = true ∨ p b = true) → ((l.take (k + 1)).filter p).take k = (l.filter p).take k
  | [], k, _ => by simp
  | x :: t, k, h => by
    rw [List.pairwise_cons] at h
    rw [List.take_succ_cons]
    cases hx : p x with
    | true =>
      rw [List.filter_cons_of_pos hx, List.filter_cons_of_pos hx]
      cases k with
      | zero => simp
      | succ k => rw [List.take_succ_cons, List.take_succ_cons, take_filter_one h.2]
    | false =>
      rw [List.filter_cons_of_neg (by simp [hx]), List.filter_cons_of_neg (by simp [hx])]
      have hall : ∀ y ∈ t, p y = true := fun y hy => (h.1 y hy).resolve_left (by simp [hx])
      rw [List.filter_eq_self.2 hall, List.filter_eq_self.2 (fun y hy => hall y (List.mem_of_mem_take hy)), List.take_take, Nat.min_self]
/-- what n of them know is the last of what more of them know -/
theorem puts_within {n m : Nat} (l : List Ht) (h1 : 1 ≤ n) (hnm : n ≤ m) : ∀ k, k ≤ l.length → (putsT n l k).reverse = (putsT m l k).reverse.take n
  | 0, _ => by simp [putsT_zero]
  | k + 1, hk => by
    have ih := puts_within l h1 hnm k (by omega)
    have hA := putsT_le (most := n) l h1 k (by omega)
    have hB := putsT_le (most := m) l (by omega) k (by omega)
    have hnd := putsT_nd (most := m) l k (by omega)
    rw [putsT_succ n l (by omega), putsT_succ m l (by omega)]
    generalize l.getD k default = h
    rw [putT_rev h hA h1, putT_rev h hB (by omega), ih]
    generalize putsT m l k = B at *
    obtain ⟨n, rfl⟩ : ∃ j, n = j + 1 := ⟨n - 1, by omega⟩
    rw [List.take_succ_cons, Nat.add_sub_cancel, List.take_take, Nat.min_eq_left (by omega)]
    congr 1
    refine take_filter_one ?_
    rw [List.pairwise_reverse]
    refine hnd.imp fun {a b} e => ?_
    rw [Bool.eq_false_iff, Ne, isK_iff] at e
    cases ha : a.isK h.a h.p with
    | false => right; rfl
    | true =>
      cases hb : b.isK h.a h.p with
      | false => left; rfl
      | true =>
        rw [isK_iff] at ha hb
        exact absurd ⟨by rw [hb.1, ha.1], by rw [hb.2, ha.2]⟩ e
theorem within_drop {n m : Nat} (l : List Ht) (h1 : 1 ≤ n) (hnm : n ≤ m) {k : Nat} (hk : k ≤ l.length) :
    (putsT n l k).length ≤ (putsT m l k).length ∧ putsT n l k = (putsT m l k).drop ((putsT m l k).length - (putsT n l k).length) := by
  have h := puts_within l h1 hnm k hk
  have h2 := congrArg List.reverse h
  rw [List.reverse_reverse, List.reverse_take, List.reverse_reverse, List.length_reverse] at h2
  have h3 := congrArg List.length h
  rw [List.length_reverse, List.length_take, List.length_reverse] at h3
  refine ⟨by omega, ?_⟩
  rw [h3]
  conv => lhs; rw [h2]
  rcases Nat.lt_or_ge n (putsT m l k).length with h | h
  · rw [Nat.min_eq_left (by omega)]
  · rw [Nat.min_eq_right h, Nat.sub_eq_zero_of_le h, Nat.sub_self]
/-- the last ones that were put are there -/
theorem puts_last {n : Nat} (l : List Ht) (h1 : 1 ≤ n) : ∀ i, i ≤ l.length → ∀ k, k < i → i - k ≤ n → ∃ x ∈ (putsT n l i).reverse.take (i - k), x.isK (l.getD k default).a (l.getD k default).p = true
  | 0, _, k, hk, _ => by omega
  | i + 1, hi, k, hk, hn => by
    have hA := putsT_le (most := n) l h1 i (by omega)
    rw [putsT_succ n l (by omega), putT_rev _ hA h1]
    obtain ⟨j, hj⟩ : ∃ j, i + 1 - k = j + 1 := ⟨i - k, by omega⟩
    rw [hj, List.take_succ_cons]
    cases hy : (l.getD i default).isK (l.getD k default).a (l.getD k default).p with
    | true => exact ⟨_, List.mem_cons_self, hy⟩
    | false =>
      have hki : k < i := by
        rcases Nat.lt_or_ge k i with h | h
        · exact h
        · obtain rfl : k = i := by omega
          rw [isK_self] at hy; cases hy
      obtain ⟨x, hx, hxk⟩ := puts_last l h1 i (by omega) k hki (by omega)
      refine ⟨x, List.mem_cons_of_mem _ ?_, hxk⟩
      rw [List.take_take, Nat.min_eq_left (by omega), show j = i - k by omega]
      refine mem_take_filter hx ?_
      rw [Bool.not_eq_true', Bool.eq_false_iff, Ne, isK_iff]
      rw [isK_iff] at hxk
      rw [Bool.eq_false_iff, Ne, isK_iff] at hy
      exact fun e => hy ⟨by rw [← e.1, hxk.1], by rw [← e.2, hxk.2]⟩
theorem puts_has {n : Nat} (l : List Ht) (h1 : 1 ≤ n) {i : Nat} (hi : i ≤ l.length) {k : Nat} (hk : k < i) (hn : i - k ≤ n) : hasT (putsT n l i) (l.getD k default).a (l.getD k default).p = true := by
  obtain ⟨x, hx, hxk⟩ := puts_last l h1 i hi k hk hn
  unfold hasT
  rw [List.any_eq_true]
  exact ⟨x, by have := List.mem_of_mem_take hx; simpa using this, hxk⟩

/-- two of them, apart, in blocks that are new since w0 -/
def TP (w0 w : World) (p n : Nat) (L : List Ht) (q m : Nat) (M : List Ht) : Prop :=
  Chg [] w0 w ∧ ∃ S T, TAt w S p n L ∧ TAt w T q m M ∧ (∀ i ∈ S, w0.heap.size ≤ i) ∧ (∀ i ∈ T, w0.heap.size ≤ i) ∧ ∀ i ∈ S, i ∉ T
section
variable {w0 w w' : World} {p n q m : Nat} {L M : List Ht}
theorem TP.new (h : TP w0 w p n L q m M) (hc : Chg [] w w') : TP w0 w' p n L q m M := by
  obtain ⟨h1, S, T, h2, h3, h4, h5, h6⟩ := h
  exact ⟨h1.trans hc (by simp), S, T, h2.self hc, h3.self hc, h4, h5, h6⟩
theorem TP.swap (h : TP w0 w p n L q m M) : TP w0 w q m M p n L := by
  obtain ⟨h1, S, T, h2, h3, h4, h5, h6⟩ := h
  exact ⟨h1, T, S, h3, h2, h5, h4, dis_symm h6⟩
theorem TP.put (x : Ht) (h : TP w0 w p n L q m M) :
    Calls Try.prog 21 #[.pointer (some ⟨p, 0, none⟩), x.v] w fun e w' => e = .returned (.tuple #[]) ∧ TP w0 w' p n (putT n L x) q m M := by
  obtain ⟨h1, S, T, h2, h3, h4, h5, h6⟩ := h
  refine (TPut_at S p n L x w h2).mono fun _ w' ⟨S', he, hc, ht, hG⟩ => ⟨he, h1.trans hc (fun i hi hm => absurd (h4 i hm) (by omega)), S', T, ht, h3.chg hc (dis_symm h6), grew_base hG h1.size h4, h5, grew_dis hG h6 h3.lt⟩
end

end Go.Proofs.Ytikdoldmhlbklaa
