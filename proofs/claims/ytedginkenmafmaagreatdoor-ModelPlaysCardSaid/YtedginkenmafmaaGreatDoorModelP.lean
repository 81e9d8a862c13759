/-
  What a machine looks like to a guest, plainly: no program is walked here.
-/
import Derived.Test.YtedginkenmafmaaGreatDoorG8c
import Derived.Test.YtedginkenmafmaaGreatDoorG9b
namespace Go.Proofs.YtedginkenmafmaaGreatDoor
open Go.RowKit

/-- a model's state: its words, its root, what is known -/
structure Ms where
  W : List Int
  r : Int
  T : List Ht
/-- how an operation comes out -/
structure Ot where
  how : Int
  v : Int
  code : Int
  a : Int
def Ot.cs (o : Ot) : Array Value := #[.int .i64 o.how, .int .u64 o.v, .int .i64 o.code, .int .u64 o.a]
def Ot.zero : Ot := ⟨0, 0, 0, 0⟩
def Ht.rg (h : Ht) : Rg := ⟨h.w, h.u, h.x⟩
/-- may an access be done by it? -/
def servesB (h : Ht) (k : Int) (u : Bool) : Bool := mayB h.rg k u && (h.d || !(k == 1))
/-- the hit of a path -/
def hitP (page : Int) (P : Pa) (t : Bool) : Ht := ⟨0, page, P.g, P.r.w, P.r.u, P.r.x, P.dirty || t⟩

section
variable (n : Nat) (L : List Int)
def freshM (s : Ms) (page kind : Int) (user : Bool) : Ms × Ht × Int × Int :=
  if (walkP n s.W L s.r page kind user).2.1 = 0 then
    (⟨markP n L (walkP n s.W L s.r page kind user).1.ats (kind == 1) s.W, s.r, putT 512 s.T (hitP page (walkP n s.W L s.r page kind user).1 (kind == 1))⟩, hitP page (walkP n s.W L s.r page kind user).1 (kind == 1), 0, 0)
  else (s, Ht.zero, (walkP n s.W L s.r page kind user).2)
def takeM (s : Ms) (page kind : Int) (user : Bool) : Ms × Ht × Int × Int :=
  if hasT s.T 0 page && servesB (getT s.T 0 page) kind user then (s, getT s.T 0 page, 0, 0) else freshM n L ⟨s.W, s.r, dropT s.T 0 page⟩ page kind user
def touchM (s : Ms) (g i kind v : Int) : Ms × Ot := if kind == 1 then (⟨setG n s.W L g i v, s.r, s.T⟩, Ot.zero) else (s, ⟨0, getG n s.W L g i, 0, 0⟩)
def goOn (t : Ms × Ht × Int × Int) (i kind : Int) (a : Nat) (v : Int) : Ms × Ot := if t.2.2.1 = 0 then touchM n L t.1 t.2.1.f i kind v else (t.1, ⟨t.2.2.1, 0, t.2.2.2, a⟩)
def accM (s : Ms) (kind : Int) (user : Bool) (a : Nat) (v : Int) : Ms × Ot :=
  if aliB a then (if canB a then goOn n L (takeM n L s (pageN a) kind user) (wordN a) kind a v else (s, ⟨2, 0, 0, a⟩)) else (s, ⟨4, 0, 0, a⟩)
def editM (s : Ms) (g i v : Int) : Ms × Ot := (⟨setG n s.W L g i v, s.r, s.T⟩, ⟨if hasG n L g i then 0 else 3, 0, 0, 0⟩)
def forgetM (s : Ms) (page : Int) : Ms := ⟨s.W, s.r, dropT s.T 0 page⟩
def rootM (s : Ms) (g : Int) : Ms := ⟨s.W, g, []⟩
def findB (s : Ms) (page : Int) : Bool := !hasT s.T 0 page && decide ((walkP n s.W L s.r page 0 false).2.1 = 0) && usedAts n s.W L (walkP n s.W L s.r page 0 false).1.ats
def findM (s : Ms) (page : Int) : Ms := if findB n L s page then ⟨s.W, s.r, putT 512 s.T (hitP page (walkP n s.W L s.r page 0 false).1 false)⟩ else s

/-- an operation, as the laws get it -/
structure OpM where
  what : Int
  kind : Int
  user : Bool
  a : Nat
  v : Int
  g : Int
  i : Int
  page : Int
def OpM.cl (o : OpM) : List Value := [.int .i64 o.what, .int .i64 o.kind, .bool o.user, .int .u64 o.a, .int .u64 o.v, .int .i64 o.g, .int .i64 o.i, .int .i64 o.page]
def OpM.val (o : OpM) : Value := .agg #[.int .i64 o.what, .int .i64 o.kind, .bool o.user, .int .u64 o.a, .int .u64 o.v, .int .i64 o.g, .int .i64 o.i, .int .i64 o.page]
structure OpM.Wf (o : OpM) : Prop where
  a : o.a < 18446744073709551616
  v : 0 ≤ o.v ∧ o.v < 18446744073709551616
  g : -9223372036854775808 ≤ o.g ∧ o.g ≤ 9223372036854775807
  i : -9223372036854775808 ≤ o.i ∧ o.i ≤ 9223372036854775807
def doM (s : Ms) (o : OpM) : Ms × Ot :=
  if o.what = 4 then editM n L s o.g o.i o.v else if o.what = 5 then (forgetM s o.page, Ot.zero) else if o.what = 6 then (rootM s o.g, Ot.zero) else if o.what = 7 then (findM n L s o.page, Ot.zero) else accM n L s o.kind o.user o.a o.v
def runM (s : Ms) (l : List OpM) : Ms := l.foldl (fun s o => (doM n L s o).1) s
end

/-- what a state keeps -/
structure OkM (n : Nat) (L : List Int) (s : Ms) : Prop where
  wd : WdW s.W
  len : s.W.length = 8 * n
  hits : ∀ x ∈ s.T, x.a = 0 ∧ 0 ≤ x.f ∧ x.f < L.length

section
variable {n : Nat} {L : List Int} {s : Ms}
theorem getT_mem {T : List Ht} {a p : Int} (h : hasT T a p = true) : getT T a p ∈ T ∧ (getT T a p).a = a ∧ (getT T a p).p = p := by
  unfold hasT at h
  rw [List.any_eq_true] at h
  obtain ⟨x, hx, hk⟩ := h
  unfold getT
  cases hf : T.find? (fun h => h.isK a p) with
  | none => rw [List.find?_eq_none] at hf; exact absurd hk (hf x hx)
  | some y =>
    have h1 := List.mem_of_find?_eq_some hf
    have h2 := List.find?_some hf
    rw [isK_iff] at h2
    exact ⟨h1, h2⟩
theorem putT_mem {most : Nat} {T : List Ht} {h x : Ht} (hx : x ∈ putT most T h) : x ∈ T ∨ x = h := by
  unfold putT at hx
  rw [List.mem_append] at hx
  rcases hx with hx | hx
  · have := (cutT_sub _ _).subset hx
    unfold dropT at this
    exact .inl (List.mem_filter.1 this).1
  · simp at hx; exact .inr hx
theorem OkM.drop (h : OkM n L s) (a p : Int) : OkM n L ⟨s.W, s.r, dropT s.T a p⟩ := ⟨h.wd, h.len, fun x hx => h.hits x (by unfold dropT at hx; exact (List.mem_filter.1 hx).1)⟩
theorem OkM.put (h : OkM n L s) {x : Ht} (hx : x.a = 0 ∧ 0 ≤ x.f ∧ x.f < L.length) : OkM n L ⟨s.W, s.r, putT 512 s.T x⟩ := ⟨h.wd, h.len, fun y hy => by
  rcases putT_mem hy with hy | rfl
  · exact h.hits y hy
  · exact hx⟩
theorem OkM.set (h : OkM n L s) (g i : Int) {v : Int} (hv : 0 ≤ v ∧ v < 18446744073709551616) : OkM n L ⟨setG n s.W L g i v, s.r, s.T⟩ := ⟨h.wd.set_ _ _ _ _ _ hv, (setG_len _ _ _ _ _ _).trans h.len, h.hits⟩
theorem OkM.root (h : OkM n L s) (g : Int) : OkM n L (rootM s g) := ⟨h.wd, h.len, by simp [rootM]⟩
theorem markP_len (n : Nat) (L : List Int) (ats : List (Int × Int)) (t : Bool) (W : List Int) : (markP n L ats t W).length = W.length := by
  unfold markP; split
  · exact markTo_len _ _ _ _ _ _
  · rfl
theorem OkM.mark (h : OkM n L s) (ats : List (Int × Int)) (t : Bool) : OkM n L ⟨markP n L ats t s.W, s.r, s.T⟩ := ⟨h.wd.mark_ _ _ _ _, (markP_len _ _ _ _ _).trans h.len, h.hits⟩
theorem done_hit {W : List Int} {r page kind : Int} {user : Bool} (h : (walkP n W L r page kind user).2.1 = 0) : 0 ≤ (walkP n W L r page kind user).1.g ∧ (walkP n W L r page kind user).1.g < L.length := by
  cases hr : walkP n W L r page kind user with
  | mk P hc =>
    obtain ⟨how, code⟩ := hc
    rw [hr] at h
    simp only at h; subst h
    obtain ⟨_, h1, _, h2⟩ := done_of hr
    exact ⟨path_g0 h1, h2⟩
theorem OkM.fresh (h : OkM n L s) (page kind : Int) (user : Bool) : OkM n L (freshM n L s page kind user).1 := by
  unfold freshM
  split
  · rename_i hd
    exact OkM.put (h.mark _ _) ⟨rfl, done_hit hd⟩
  · exact h
theorem OkM.take (h : OkM n L s) (page kind : Int) (user : Bool) : OkM n L (takeM n L s page kind user).1 := by
  unfold takeM
  split
  · exact h
  · exact (h.drop 0 page).fresh _ _ _
theorem OkM.acc (h : OkM n L s) (kind : Int) (user : Bool) (a : Nat) {v : Int} (hv : 0 ≤ v ∧ v < 18446744073709551616) : OkM n L (accM n L s kind user a v).1 := by
  unfold accM
  split
  · split
    · have ht := h.take (pageN a) kind user
      unfold goOn touchM
      split
      · split
        · exact ht.set _ _ hv
        · exact ht
      · exact ht
    · exact h
  · exact h
theorem OkM.find (h : OkM n L s) (page : Int) : OkM n L (findM n L s page) := by
  unfold findM
  split
  · rename_i hb
    unfold findB at hb
    simp only [Bool.and_eq_true, decide_eq_true_eq] at hb
    exact h.put ⟨rfl, done_hit hb.1.2⟩
  · exact h
theorem OkM.do_ (h : OkM n L s) {o : OpM} (ho : o.Wf) : OkM n L (doM n L s o).1 := by
  unfold doM
  split
  · exact h.set _ _ ho.v
  split
  · exact h.drop _ _
  split
  · exact h.root _
  split
  · exact h.find _
  · exact h.acc _ _ _ ho.v
theorem runM_succ {l : List OpM} {k : Nat} {o : OpM} (ho : l[k]? = some o) : runM n L s (l.take (k + 1)) = (doM n L (runM n L s (l.take k)) o).1 := by
  have hk := (List.getElem?_eq_some_iff.1 ho).1
  have he := (List.getElem?_eq_some_iff.1 ho).2
  rw [List.take_succ_eq_append_getElem hk, he]
  simp [runM, List.foldl_append]
end

end Go.Proofs.YtedginkenmafmaaGreatDoor
