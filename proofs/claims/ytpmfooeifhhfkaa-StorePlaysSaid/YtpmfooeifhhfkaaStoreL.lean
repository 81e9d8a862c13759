/-
  A page is given back: plain facts on what is cleared, and on what is left.
-/
import Derived.Test.YtpmfooeifhhfkaaStoreK
import Derived.Test.YtpmfooeifhhfkaaDelI
namespace Go.Proofs.Ytpmfooeifhhfkaa
open Go.RowKit Go.Maps

section
variable {n a m : Nat} {s : Sr}
/-- slots are cleared, one behind the other -/
def clrN (n : Nat) (s : Sr) : List (Int × Int) → Sr
  | [] => s
  | x :: T => clrN n (clearS n s x.1 x.2) T
theorem clrN_snoc (n : Nat) (x : Int × Int) : ∀ (T : List (Int × Int)) (s : Sr), clrN n s (T ++ [x]) = clearS n (clrN n s T) x.1 x.2
  | [], _ => rfl
  | y :: T, s => clrN_snoc n x T (clearS n s y.1 y.2)
theorem wipe_congr (h : SrOk n a m s) {c c' : Int → Nat → Bool} (e : ∀ q ∈ s.L, ∀ i < 8, c q.f i = c' q.f i) : wipeS s c = wipeS s c' := by
  refine Sr.ext_ ?_ rfl ?_
  · unfold wipeS
    rw [updS_L, updS_L]
    unfold updP
    apply List.map_congr_left
    intro q hq
    refine Pg.ext_ rfl rfl ?_
    show List.mapIdx _ _ = List.mapIdx _ _
    apply List.ext_getElem?
    intro j
    rw [List.getElem?_mapIdx, List.getElem?_mapIdx]
    cases e2 : q.s[j]? with
    | none => rfl
    | some x =>
      have hj := (List.getElem?_eq_some_iff.1 e2).1
      rw [h.eight q hq] at hj
      unfold wipeU
      rw [e q hq j hj]
  · unfold wipeS
    rw [updS_W, updS_W]
    unfold updW
    apply List.ext_getElem?
    intro j
    rw [List.getElem?_mapIdx, List.getElem?_mapIdx]
    cases e2 : s.W[j]? with
    | none => rfl
    | some v =>
      rw [Option.map_some, Option.map_some]
      cases e3 : pgAt s.L ((j / 8 : Nat) : Int) with
      | none => rfl
      | some q =>
        obtain ⟨hq, hf⟩ := pgAt_mem e3
        unfold wipeU
        rw [← hf, e q hq (j % 8) (by omega)]
theorem wipe_none (h : SrOk n a m s) : wipeS s (fun _ _ => false) = s := h.upd_id fun q _ i _ y hy => by unfold wipeU at hy; simp at hy
theorem clr_wipe : ∀ (T : List (Int × Int)) {s : Sr}, SrOk n a m s → (∀ x ∈ T, 0 ≤ x.2 ∧ x.2 ≤ 7) → clrN n s T = wipeS s fun f j => T.any fun x => decide (f = x.1 ∧ j = x.2.toNat)
  | [], s, h, _ => (wipe_none h).symm
  | x :: T, s, h, hx => by
    rw [clrN, clr_wipe T (h.clear x.1 x.2) (fun y hy => hx y (List.mem_cons_of_mem _ hy)), h.clear_wipe x.1 x.2 (hx x List.mem_cons_self), wipe_wipe]
    rfl
theorem clr_ok : ∀ (T : List (Int × Int)) {s : Sr}, SrOk n a m s → SrOk n a m (clrN n s T)
  | [], _, h => h
  | x :: T, _, h => clr_ok T (h.clear x.1 x.2)
theorem set_wipe (h : SrOk n a m s) {p : Int} {k : Nat} (hb : hasS s p k = true) : setS n s p k Slt.no 0 = wipeS s fun f j => decide (f = p ∧ j = k) := by
  rw [h.set_upd _ _ hb]
  unfold wipeS
  congr 1
  funext f j
  unfold wipeU oneU
  simp only [decide_eq_true_eq, Int.toNat_natCast]
  rfl
theorem empty_wipe (h : SrOk n a m s) {p : Int} (hb : dropB s p = true) : ∀ k, k ≤ 8 → emptyS n s p k = wipeS s fun f j => decide (f = p ∧ j < k)
  | 0, _ => by
    show s = _
    conv => lhs; rw [← wipe_none h]
    refine wipe_congr h fun q _ i _ => ?_
    simp
  | k + 1, hk => by
    have hh : hasS (emptyS n s p k) p (k : Nat) = true := by
      rw [empty_has]; unfold hasS
      rw [show (pgAt s.L p).isSome = true from hb]; simp; omega
    rw [emptyS]
    have ih := empty_wipe h hb k (by omega)
    rw [ih] at hh ⊢
    rw [set_wipe (h.wipe _) hh, wipe_wipe]
    refine wipe_congr h fun q _ i _ => ?_
    rw [Bool.eq_iff_iff]
    simp only [Bool.or_eq_true, decide_eq_true_eq]
    omega
theorem told_bound (h : SrOk n a m s) {kind p : Int} {x : Int × Int} (hx : x ∈ toldP kind p s.L) : ((a : Int) ≤ x.1 ∧ x.1 < a + m) ∧ 0 ≤ x.2 ∧ x.2 ≤ 7 := by
  obtain ⟨g, j⟩ := x
  obtain ⟨q, hq, e, i, y, hy, hj, _⟩ := told_mem.1 hx
  have hi := (List.getElem?_eq_some_iff.1 hy).1
  rw [h.eight q hq] at hi
  have := h.inL hq
  simp only
  omega
/-- all that a Drop clears -/
theorem drop_wipe (h : SrOk n a m s) {p : Int} (hb : dropB s p = true) : emptyS n (clrN n s (toldP 1 p s.L)) p 8 = wipeS s (goneC s.L p) := by
  have hT : ∀ x ∈ toldP 1 p s.L, 0 ≤ x.2 ∧ x.2 ≤ 7 := fun x hx => (told_bound h hx).2
  have hk := clr_ok (toldP 1 p s.L) h
  have e := clr_wipe (toldP 1 p s.L) h hT
  have hb' : dropB (clrN n s (toldP 1 p s.L)) p = true := by
    rw [e]
    unfold dropB wipeS
    rw [updS_L, some_upd]; exact hb
  rw [empty_wipe hk hb' 8 (by omega), e, wipe_wipe]
  refine wipe_congr h fun q hq i hi => ?_
  obtain ⟨x, hx, hsl⟩ := h.slot hq hi
  unfold goneC
  rw [hsl, Bool.eq_iff_iff]
  simp only [Bool.or_eq_true, decide_eq_true_eq, List.any_eq_true]
  constructor
  · rintro (⟨y, hy, h1, h2⟩ | h1)
    · obtain ⟨g, j⟩ := y
      obtain ⟨q', hq', e1, i', y', hy', e2, h3, h4⟩ := told_mem.1 hy
      simp only at h1 h2
      have : q' = q := by
        have e3 := h.at_ hq; have e4 := h.at_ hq'
        rw [← e1, ← h1, e3] at e4; injection e4 with e4; exact e4.symm
      subst this
      have : i' = i := by omega
      subst this
      rw [hx] at hy'; injection hy' with hy'; subst hy'
      exact .inr ⟨h3, h4⟩
    · exact .inl h1.1
  · rintro (h1 | ⟨h1, h2⟩)
    · exact .inr ⟨h1, hi⟩
    · exact .inl ⟨(q.f, (i : Int)), told_mem.2 ⟨q, hq, rfl, i, x, hx, rfl, h1, h2⟩, rfl, by simp⟩
theorem dropS_is {p : Int} (hb : dropB s p = true) : dropS s p = ⟨(wipeS s (goneC s.L p)).L.filter fun q => decide (q.f ≠ p), s.fr ++ [p], (wipeS s (goneC s.L p)).W⟩ := by
  unfold dropS; rw [if_pos hb]
end

/-! ### the page is taken out -/
theorem filter_erase : ∀ {L : List Pg} {j : Nat} {q : Pg}, (L.map Pg.f).Nodup → L[j]? = some q → L.filter (fun x => decide (x.f ≠ q.f)) = L.eraseIdx j
  | [], j, q, _, h => by simp at h
  | x :: L, 0, q, hn, h => by
    simp at h; subst h
    rw [List.map_cons, List.nodup_cons] at hn
    rw [List.filter_cons, if_neg (by simp), List.eraseIdx_cons_zero, List.filter_eq_self]
    intro y hy
    rw [decide_eq_true_eq]
    exact fun e => hn.1 (List.mem_map.2 ⟨y, hy, e⟩)
  | x :: L, j + 1, q, hn, h => by
    rw [List.getElem?_cons_succ] at h
    rw [List.map_cons, List.nodup_cons] at hn
    rw [List.filter_cons, if_pos (by rw [decide_eq_true_eq]; exact fun e => hn.1 (List.mem_map.2 ⟨q, List.mem_of_getElem? h, e.symm⟩)), List.eraseIdx_cons_succ, filter_erase hn.2 h]
theorem blkF_erase : ∀ {L : List Pg} {B : List Nat} {j : Nat} {q : Pg} {f : Int}, (L.map Pg.f).Nodup → B.length = L.length → L[j]? = some q → blkF (L.eraseIdx j) (B.eraseIdx j) f = delF (blkF L B) q.f f
  | [], _, j, q, _, _, _, h => by simp at h
  | x :: L, [], _, _, _, _, h, _ => by simp at h
  | x :: L, b :: B, 0, q, f, hn, hl, h => by
    simp at h; subst h
    rw [List.map_cons, List.nodup_cons] at hn
    rw [List.eraseIdx_cons_zero, List.eraseIdx_cons_zero]
    unfold delF
    by_cases e : f = x.f
    · rw [if_pos e, (blkF_none (by simpa using hl)).2]
      rw [pgAt_none]
      intro y hy e2
      exact hn.1 (List.mem_map.2 ⟨y, hy, e2.trans e⟩)
    · rw [if_neg e, show blkF (x :: L) (b :: B) f = blkF L B f by rw [blkF, if_neg e]]
  | x :: L, b :: B, j + 1, q, f, hn, hl, h => by
    rw [List.getElem?_cons_succ] at h
    rw [List.map_cons, List.nodup_cons] at hn
    have hne : x.f ≠ q.f := fun e => hn.1 (List.mem_map.2 ⟨q, List.mem_of_getElem? h, e.symm⟩)
    rw [List.eraseIdx_cons_succ, List.eraseIdx_cons_succ]
    have ih := blkF_erase (B := B) (f := f) hn.2 (by simpa using hl) h
    unfold delF at ih ⊢
    rw [show blkF (x :: L.eraseIdx j) (b :: B.eraseIdx j) f = if f = x.f then some b else blkF (L.eraseIdx j) (B.eraseIdx j) f from rfl, show blkF (x :: L) (b :: B) f = if f = x.f then some b else blkF L B f from rfl, ih]
    by_cases e : f = x.f
    · rw [if_pos e, if_neg (by rw [e]; exact hne), if_pos e]
    · rw [if_neg e, if_neg e]

/-- 'delete(m, f)', of one that is there -/
theorem wpList_delete_P {P : Program} {kt : TypeId} {w : World} {ops : Array Oper} {rest : List Oper} {o : Oper} {a : Act} {Q : Exit → Act → World → Prop} (hg : o.guard = none) (m x : Operand) (t : TypeId) (hop : o.op = Op.call { callee := Callee.builtin Builtin.delete, args := #[m, x], argTypes := #[t, kt] }) (e : TypeId) (K : Keyed P kt) (ht : P.underlying t = some (.map kt e)) (hkt : P.underlying kt = some (.int .i64))
    (b n : Nat) (F : Int → Option Nat) (hm : a.eval m = .map (some b)) (hs : PtrM P kt w b n F) (f : Int) (hx : a.eval x = .int .i64 f) (hf : (Lit.int .i64 f).wf = true) (hF : (F f).isSome = true)
    (hK : ∀ w', PtrM P kt w' b (n - 1) (delF F f) → 0 < n → Chg [b] w w' → wpList P ops Q rest (a.put o.dst (.tuple #[])) w') : wpList P ops Q (o :: rest) a w := by
  obtain ⟨D, h1, h2, h3, h4⟩ := hs
  have hd := Maps.size_del (k := .int .i64 f) (h1.tidy K)
  rw [h2, hF, h4] at hd
  simp only [if_true] at hd
  refine wpList_delete_own w hg m x t kt hop e K ht ptrElem b n D hm h1 _ _ hx (keyOf_int_mk hkt hf) fun w' o1 o2 => hK w' ⟨_, (show n - 1 = Maps.size (D.del (.int .i64 f)) by omega) ▸ ownsMap_tightP o1, fun x => ?_, fun x => ?_, by omega⟩ (by omega) (Chg.of_grown o2.grown)
  · by_cases hx : x = f
    · subst hx; rw [Maps.has_del_same]; simp [delF]
    · rw [Maps.has_del_other (lit_ne hx), h2]; simp [delF, hx]
  · by_cases hx : x = f
    · subst hx; rw [Maps.atKey_del_same]; simp [delF, ptrD]
    · rw [Maps.atKey_del_other (lit_ne hx), h3]; simp [delF, hx]

end Go.Proofs.Ytpmfooeifhhfkaa
