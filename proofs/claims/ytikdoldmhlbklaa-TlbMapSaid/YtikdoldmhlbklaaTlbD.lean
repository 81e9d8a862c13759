/-
  The contracts of slices.Delete (one hit) and slices.Clone at hits.
-/
import Derived.Test.YtikdoldmhlbklaaTlbC
namespace Go.Proofs.Ytikdoldmhlbklaa
open Go.RowKit

theorem erase_enc {M : List Ht} {i : Nat} (_hi : i < M.length) : encH (M.eraseIdx i) = encH (M.take i) ++ encH (M.drop (i + 1)) := by
  rw [List.eraseIdx_eq_take_drop_succ, encH_app]
/-- the cells behind 'append(s[:i], s[i+1:]...)', and some more behind the end written over -/
theorem delete_cells {M : List Ht} {tl xs : List Value} {i : Nat} (hi : i < M.length) (hx : xs.length = 7) :
    ∃ tl', setV (setV (encH M ++ tl) (i * 7) (encH (M.drop (i + 1)))) ((M.length - 1) * 7) xs = encH (M.eraseIdx i) ++ tl' ∧ tl'.length = 7 + tl.length := by
  have l1 : (encH (M.take i)).length = i * 7 := by rw [encH_len]; simp; omega
  have l2 : (encH (M.drop (i + 1))).length = (M.length - (i + 1)) * 7 := by rw [encH_len]; simp
  have l3 : (encH (M.eraseIdx i)).length = (M.length - 1) * 7 := by rw [encH_len, List.length_eraseIdx_of_lt hi]
  have e1 : (encH M ++ tl).take (i * 7) = encH (M.take i) := by
    have e : encH M = encH (M.take i) ++ encH (M.drop i) := by rw [← encH_app, List.take_append_drop]
    rw [e, List.append_assoc, List.take_append_of_le_length (by omega), List.take_of_length_le (by omega)]
  have lt : (encH M ++ tl).length = M.length * 7 + tl.length := by simp [encH_len]
  generalize hX : (encH M ++ tl).drop (i * 7 + (encH (M.drop (i + 1))).length) = X
  have lX : X.length = 7 + tl.length := by rw [← hX, List.length_drop, lt, l2]; omega
  have e2 : setV (encH M ++ tl) (i * 7) (encH (M.drop (i + 1))) = encH (M.eraseIdx i) ++ X := by
    unfold setV
    rw [e1, hX, erase_enc hi]
  rw [e2]
  refine ⟨xs ++ X.drop 7, ?_, by simp [hx, lX]⟩
  unfold setV
  rw [List.take_append_of_le_length (by omega), List.take_of_length_le (by omega), hx]
  rw [List.drop_append, l3, List.drop_of_length_le (by omega), List.nil_append, show (M.length - 1) * 7 + 7 - (M.length - 1) * 7 = 7 by omega, List.append_assoc]

set_option maxHeartbeats 4000000 in
set_option maxRecDepth 100000 in
theorem delete_any (g c i : Nat) (M : List Ht) (tl : List Value) (w : World) (h : RowH w g M tl) (hi : i < M.length) (hc : M.length ≤ c) (hm : c ≤ 9223372036854775807) (ht : M.length * 7 + tl.length = c * 7) :
    Calls Try.prog 38 #[.slice (some ⟨g, 0, none⟩) M.length c, .int .i64 i, .int .i64 (i + 1)] w fun e w' =>
      e = .returned (.slice (some ⟨g, 0, none⟩) (M.length - 1) c) ∧ Chg [g] w w' ∧ OwnH w' (.slice (some ⟨g, 0, none⟩) (M.length - 1) c) (M.eraseIdx i) := by
  obtain ⟨i0, hi0, hz0, hz1, hz2⟩ := info_parts info_H
  have hlt := h.lt
  obtain ⟨news, hnews⟩ : ∃ news, news = encH (M.drop (i + 1)) := ⟨_, rfl⟩
  have hlen : news.length = (M.length - (i + 1)) * 7 := by rw [hnews, encH_len]; simp
  have hcell : ∀ k : Nat, k < M.length * 7 → (w.drew.cell? ⟨g, k, none⟩).isSome = true := fun k hk => by
    rw [Blk.cell (t := 31) (Blk.drew h), List.getElem?_toArray, List.getElem?_append_left (by rw [encH_len]; omega), List.getElem?_eq_getElem (by rw [encH_len]; omega)]; rfl
  obtain ⟨A, hA, hsrc⟩ : ∃ A : Addr, (if c = i + 1 then some (⟨g, 0, none⟩ : Addr) else some ⟨g, (i + 1) * 7, none⟩) = some A ∧ Hid (∀ t u, news[t]? = some u → w.drew.cell? (A.add t) = some u) := by
    by_cases e : c = i + 1
    · refine ⟨⟨g, 0, none⟩, by simp [e], fun t u hu => ?_⟩
      have h0 : news.length = 0 := by rw [hlen]; omega
      rw [List.length_eq_zero_iff.1 h0] at hu
      simp at hu
    · refine ⟨⟨g, (i + 1) * 7, none⟩, by simp [e], fun t u hu => ?_⟩
      have hT : t < (M.length - (i + 1)) * 7 := by
        have := (List.getElem?_eq_some_iff.1 hu).1
        rwa [hlen] at this
      have e : encH M = encH (M.take (i + 1)) ++ encH (M.drop (i + 1)) := by rw [← encH_app, List.take_append_drop]
      have l1 : (encH (M.take (i + 1))).length = (i + 1) * 7 := by rw [encH_len]; simp; omega
      rw [add_at, Blk.cell (t := 31) (Blk.drew h), List.getElem?_toArray, e, List.append_assoc, List.getElem?_append_right (by omega), List.getElem?_append_left (by rw [← hnews, hlen, l1]; omega), l1, ← hnews, ← hu]
      congr 1; omega
  have s1 : Hid (news.length = (M.length - (i + 1)) * 7) := hlen
  have s2 : Hid (∀ u ∈ news, u.oneCell' = true) := by rw [hnews]; exact encH_oneCell _
  have s3 : Hid (∀ t, t < news.length → (w.drew.cell? ⟨g, 0 + i * 7 + t, none⟩).isSome = true ∧ w.drew.frozen? ⟨g, 0 + i * 7 + t, none⟩ = false) := fun t hT => by
    rw [hlen] at hT
    exact ⟨hcell _ (by omega), h.frozen _⟩
  obtain ⟨W1, hW1⟩ : ∃ W1, W1 = w.drew.setCells g (0 + i * 7) news := ⟨_, rfl⟩
  have hB1 : Blk W1 g 31 (setV (encH M ++ tl) (i * 7) news).toArray := by
    rw [hW1, Nat.zero_add]
    exact setCells_V _ _ _ _ (Blk.drew h) (by simp [encH_len, hlen]; omega)
  have hC1 : Chg [g] w W1 := by rw [hW1]; exact Chg.setCells (by simp) _ _ _ (Chg.refl _ _).drew
  have lV : (setV (encH M ++ tl) (i * 7) news).length = M.length * 7 + tl.length := by
    rw [setV_len (by simp [encH_len, hlen]; omega)]; simp [encH_len]
  obtain ⟨xs, hx, hcl⟩ : ∃ xs : List Value, xs.length = 7 ∧ ∀ ty, (Builtin.clear_ #[41] ty #[.slice (some ⟨g, (i + (M.length - (i + 1))) * 7, none⟩) (M.length - (i + (M.length - (i + 1)))) (c - (i + (M.length - (i + 1))))]).run Try.prog W1 = .ok (.tuple #[]) (W1.setCells g ((i + (M.length - (i + 1))) * 7) xs) := by
    have e1 : M.length - (i + (M.length - (i + 1))) = 1 := by omega
    rw [e1]
    exact run_clear_H W1 g ((i + (M.length - (i + 1))) * 7) 1 (c - (i + (M.length - (i + 1)))) (by decide)
      (fun j hj => by rw [hB1.cell, List.getElem?_toArray, List.getElem?_eq_getElem (by rw [lV]; omega)]; rfl) (fun j _ => hB1.frozen _)
  have hW : Hid (W1 = w.drew.setCells g (0 + i * 7) news) := hW1
  have HB := Lib.hid hB1
  have HX := Lib.hid hnews
  have HC := Lib.hid hC1
  have hic : i ≤ c := by omega
  have hp0 : (0 : Int) ≤ (i : Int) + 1 := by omega
  have hp2 : ((i : Int) + 1).toNat = i + 1 := by omega
  have hp3 : ((i : Int) == (i : Int) + 1) = false := by simp; omega
  generalize hn : M.length = n at *
  have HN := Lib.hid hn
  clear hn hW1 hB1 hC1 hnews hlen hcell lV h
  have hp1 : (i : Int) + 1 ≤ (n : Int) := by omega
  go_enter Try.func38, Try.ntmps38
  go_wp2_with fail
  go_region_law (refine step_append_room rfl (.tmp 22) (.tmp 25) 41 rfl 31 i0 7 Try.underlying41 hi0 hz1 g 0 i c (by simp [Act.eval, Act.put]) A (n - (i + 1)) (c - (i + 1)) news (by simp [Act.eval, Act.put]) s1.out hsrc.out s2.out (by omega) s3.out ?_; rw [← hW.out])
  go_wp2
  go_ret
  have hn := HN.out
  subst hn
  have e1 : i + (M.length - (i + 1)) = M.length - 1 := by omega
  have hB2 := setCells_V xs ((i + (M.length - (i + 1))) * 7) _ _ HB.out (by rw [setV_len (by simp [encH_len, s1.out]; omega)]; simp [encH_len]; omega)
  rw [e1] at hB2 ⊢
  rw [HX.out] at hB2
  obtain ⟨tl', ee, hl'⟩ := delete_cells (tl := tl) (xs := xs) hi hx
  rw [ee] at hB2
  refine ⟨rfl, Chg.setCells (by simp) _ _ _ HC.out, ?_⟩
  have hle : (M.eraseIdx i).length = M.length - 1 := List.length_eraseIdx_of_lt hi
  have := RowH.own_all (M := M.eraseIdx i) (tl := tl') hB2 c (by rw [hle, hl']; omega) hm
  rwa [hle] at this

theorem wpList_append_own_H {ops : Array Oper} {w : World} {rest : List Oper} {o : Oper} {a : Act} {Q : Exit → Act → World → Prop} (hgd : o.guard = none) (s x : Operand)
    (ho : o.op = .call { callee := .builtin .append, args := #[s, x], argTypes := #[41, 41] })
    (v : Value) (L : List Ht) (hv : a.eval s = v) (hown : OwnH w v L) (A : Option Addr) (m c : Nat) (N : List Ht) (hx : a.eval x = .slice A m c) (hs : Src w 7 A m c (encH N)) (hm : N.length = m)
    (hlen : L.length + m ≤ 1000000)
    (h : ∀ v' w', OwnH w' v' (L ++ N) → Chg v.ownBlock.toList w w' → (v'.ownBlock = v.ownBlock ∨ v'.ownBlock = some w.heap.size) → wpList Try.prog ops Q rest (a.put o.dst v') w') : wpList Try.prog ops Q (o :: rest) a w := by
  obtain ⟨i0, hi0, hz0, hz1, hz2⟩ := info_parts info_H
  refine wpList_append_src hgd s x 41 ho 0 31 i0 _ 7 32 Try.underlying41 hi0 hz0 hz1 hz2 rfl (by decide) v L.length (encH L) hv hown A m c (encH N) hx hs (by simp [maxLen]; omega) (by omega) (Nat.zero_le _) ?_
  intro v' w' h1 h2 h3
  refine h v' w' ?_ h2 h3
  unfold OwnH
  rw [List.length_append, hm, encH_app]
  exact h1

set_option maxHeartbeats 1000000 in
theorem clone_any (A : Option Addr) (n c : Nat) (L : List Ht) (w : World) (hl : SlH w A n L) (hA : A = none → n = 0 ∧ c = 0) (hn : n ≤ 100000) :
    Calls Try.prog 34 #[.slice A n c] w fun e w' => ∃ v', e = .returned v' ∧ Chg [] w w' ∧ OwnH w' v' L ∧ ∀ g ∈ v'.ownBlock.toList, w.heap.size ≤ g := by
  have q22 : ∀ (w : World) (a : Option Addr) (n c n' c' : Nat), (binOp .eql 41 (.slice a n c) (.slice none n' c')).run Try.prog w = .ok (.bool a.isNone) w := fun w a n c n' c' => Lib.run_eql_slice_nil w _ _ a n c n' c' Try.underlying41
  have hlen := hl.len
  cases A with
  | none =>
    obtain ⟨rfl, rfl⟩ := hA rfl
    obtain rfl : L = [] := List.eq_nil_of_length_eq_zero hlen
    clear hl hA hn hlen
    go_enter Try.func34, Try.ntmps34
    go_wp2
    go_ret
    exact ⟨_, rfl, Chg.refl _ _, OwnH.none_ _, by simp [Value.ownBlock]⟩
  | some a =>
    have hsrc := hl.src (c := c) hA
    have HL := Lib.hid hlen
    clear hlen hA hl
    have hmade : OwnH (w.alloc (.cells #[] 31)) (.slice (some ⟨w.heap.size, 0, none⟩) 0 0) [] := World.ownsRow_made w #[] 0 (Nat.zero_le _) (Nat.zero_le _) (by simp)
    have hsrc1 : Src (w.alloc (.cells #[] 31)) 7 (some a) n c (encH L) := ⟨hsrc.len, hsrc.one, hsrc.none_, fun a' ha j u hu => Lib.cell?_alloc_some _ (hsrc.at_ a' ha j u hu)⟩
    go_enter Try.func34, Try.ntmps34
    go_wp2_with (at_builtin; refine wpList_append_own_H rfl _ _ rfl _ [] rfl hmade (some a) n c L rfl hsrc1 HL.out (by simp; omega) ?_)
    intro v' w1 hown hch hb
    go_wp2
    go_ret
    have hc0 : Chg [] w (w.alloc (.cells #[] 31)) := (Chg.refl _ _).alloc _
    refine ⟨v', rfl, hc0.trans hch (by intro i hi hm; simp [Value.ownBlock] at hm; omega), by simpa using hown, fun g hg => ?_⟩
    rcases hb with e | e
    · rw [e] at hg; simp [Value.ownBlock] at hg; omega
    · rw [e] at hg; simp at hg; omega

end Go.Proofs.Ytikdoldmhlbklaa
