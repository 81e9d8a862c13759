/-
  ModelP, ModelA, ModelB, ModelC, ModelD in one text.
-/
import Derived.Test.YtgebfagiomcmbaaGreatDoorG8cK
import Derived.Test.YtgebfagiomcmbaaGreatDoorG9bK
import Derived.Test.YtgebfagiomcmbaaGreatDoorG0K
namespace Go.Proofs.YtgebfagiomcmbaaGreatDoor
open Go.RowKit

/-- a model's state: its words, its root, what is known -/
structure Ms where
  W : List Int
  r : Int
  T : List Ht
/-- how an operation comes out -/
structure Ot where
  how : Int
  v : Int
  code : Int
  a : Int
def Ot.cs (o : Ot) : Array Value := #[.int .i64 o.how, .int .u64 o.v, .int .i64 o.code, .int .u64 o.a]
def Ot.zero : Ot := ⟨0, 0, 0, 0⟩
def Ht.rg (h : Ht) : Rg := ⟨h.w, h.u, h.x⟩
/-- may an access be done by it? -/
def servesB (h : Ht) (k : Int) (u : Bool) : Bool := mayB h.rg k u && (h.d || !(k == 1))
/-- the hit of a path -/
def hitP (page : Int) (P : Pa) (t : Bool) : Ht := ⟨0, page, P.g, P.r.w, P.r.u, P.r.x, P.dirty || t⟩

section
variable (n : Nat) (L : List Int)
def freshM (s : Ms) (page kind : Int) (user : Bool) : Ms × Ht × Int × Int :=
  if (walkP n s.W L s.r page kind user).2.1 = 0 then
    (⟨markP n L (walkP n s.W L s.r page kind user).1.ats (kind == 1) s.W, s.r, putT 512 s.T (hitP page (walkP n s.W L s.r page kind user).1 (kind == 1))⟩, hitP page (walkP n s.W L s.r page kind user).1 (kind == 1), 0, 0)
  else (s, Ht.zero, (walkP n s.W L s.r page kind user).2)
def takeM (s : Ms) (page kind : Int) (user : Bool) : Ms × Ht × Int × Int :=
  if hasT s.T 0 page && servesB (getT s.T 0 page) kind user then (s, getT s.T 0 page, 0, 0) else freshM n L ⟨s.W, s.r, dropT s.T 0 page⟩ page kind user
def touchM (s : Ms) (g i kind v : Int) : Ms × Ot := if kind == 1 then (⟨setG n s.W L g i v, s.r, s.T⟩, Ot.zero) else (s, ⟨0, getG n s.W L g i, 0, 0⟩)
def goOn (t : Ms × Ht × Int × Int) (i kind : Int) (a : Nat) (v : Int) : Ms × Ot := if t.2.2.1 = 0 then touchM n L t.1 t.2.1.f i kind v else (t.1, ⟨t.2.2.1, 0, t.2.2.2, a⟩)
def accM (s : Ms) (kind : Int) (user : Bool) (a : Nat) (v : Int) : Ms × Ot :=
  if aliB a then (if canB a then goOn n L (takeM n L s (pageN a) kind user) (wordN a) kind a v else (s, ⟨2, 0, 0, a⟩)) else (s, ⟨4, 0, 0, a⟩)
def forgetM (s : Ms) (page : Int) : Ms := ⟨s.W, s.r, dropT s.T 0 page⟩
def rootM (s : Ms) (g : Int) : Ms := ⟨s.W, g, []⟩
def findB (s : Ms) (page : Int) : Bool := !hasT s.T 0 page && decide ((walkP n s.W L s.r page 0 false).2.1 = 0) && usedAts n s.W L (walkP n s.W L s.r page 0 false).1.ats
def findM (s : Ms) (page : Int) : Ms := if findB n L s page then ⟨s.W, s.r, putT 512 s.T (hitP page (walkP n s.W L s.r page 0 false).1 false)⟩ else s

/-- an operation, as the laws get it -/
structure OpM where
  what : Int
  kind : Int
  user : Bool
  a : Nat
  v : Int
  g : Int
  i : Int
  page : Int
def OpM.cl (o : OpM) : List Value := [.int .i64 o.what, .int .i64 o.kind, .bool o.user, .int .u64 o.a, .int .u64 o.v, .int .i64 o.g, .int .i64 o.i, .int .i64 o.page]
def OpM.val (o : OpM) : Value := .agg #[.int .i64 o.what, .int .i64 o.kind, .bool o.user, .int .u64 o.a, .int .u64 o.v, .int .i64 o.g, .int .i64 o.i, .int .i64 o.page]
structure OpM.Wf (o : OpM) : Prop where
  a : o.a < 18446744073709551616
  v : 0 ≤ o.v ∧ o.v < 18446744073709551616
  g : -9223372036854775808 ≤ o.g ∧ o.g ≤ 9223372036854775807
  i : -9223372036854775808 ≤ o.i ∧ o.i ≤ 9223372036854775807
end

/-- what a state keeps -/
structure OkM (n : Nat) (L : List Int) (s : Ms) : Prop where
  wd : WdW s.W
  len : s.W.length = 8 * n
  hits : ∀ x ∈ s.T, x.a = 0 ∧ 0 ≤ x.f ∧ x.f < L.length

section
variable {n : Nat} {L : List Int} {s : Ms}
theorem putT_mem {most : Nat} {T : List Ht} {h x : Ht} (hx : x ∈ putT most T h) : x ∈ T ∨ x = h := by
  unfold putT at hx
  rw [List.mem_append] at hx
  rcases hx with hx | hx
  · have := (cutT_sub _ _).subset hx
    unfold dropT at this
    exact .inl (List.mem_filter.1 this).1
  · simp at hx; exact .inr hx
theorem OkM.drop (h : OkM n L s) (a p : Int) : OkM n L ⟨s.W, s.r, dropT s.T a p⟩ := ⟨h.wd, h.len, fun x hx => h.hits x (by unfold dropT at hx; exact (List.mem_filter.1 hx).1)⟩
theorem OkM.put (h : OkM n L s) {x : Ht} (hx : x.a = 0 ∧ 0 ≤ x.f ∧ x.f < L.length) : OkM n L ⟨s.W, s.r, putT 512 s.T x⟩ := ⟨h.wd, h.len, fun y hy => by
  rcases putT_mem hy with hy | rfl
  · exact h.hits y hy
  · exact hx⟩
theorem OkM.set (h : OkM n L s) (g i : Int) {v : Int} (hv : 0 ≤ v ∧ v < 18446744073709551616) : OkM n L ⟨setG n s.W L g i v, s.r, s.T⟩ := ⟨h.wd.set_ _ _ _ _ _ hv, (setG_len _ _ _ _ _ _).trans h.len, h.hits⟩
theorem OkM.root (h : OkM n L s) (g : Int) : OkM n L (rootM s g) := ⟨h.wd, h.len, by simp [rootM]⟩
theorem markP_len (n : Nat) (L : List Int) (ats : List (Int × Int)) (t : Bool) (W : List Int) : (markP n L ats t W).length = W.length := by
  unfold markP; split
  · exact markTo_len _ _ _ _ _ _
  · rfl
theorem OkM.mark (h : OkM n L s) (ats : List (Int × Int)) (t : Bool) : OkM n L ⟨markP n L ats t s.W, s.r, s.T⟩ := ⟨h.wd.mark_ _ _ _ _, (markP_len _ _ _ _ _).trans h.len, h.hits⟩
theorem done_hit {W : List Int} {r page kind : Int} {user : Bool} (h : (walkP n W L r page kind user).2.1 = 0) : 0 ≤ (walkP n W L r page kind user).1.g ∧ (walkP n W L r page kind user).1.g < L.length := by
  cases hr : walkP n W L r page kind user with
  | mk P hc =>
    obtain ⟨how, code⟩ := hc
    rw [hr] at h
    simp only at h; subst h
    obtain ⟨_, h1, _, h2⟩ := done_of hr
    exact ⟨path_g0 h1, h2⟩
theorem OkM.fresh (h : OkM n L s) (page kind : Int) (user : Bool) : OkM n L (freshM n L s page kind user).1 := by
  unfold freshM
  split
  · rename_i hd
    exact OkM.put (h.mark _ _) ⟨rfl, done_hit hd⟩
  · exact h
theorem OkM.take (h : OkM n L s) (page kind : Int) (user : Bool) : OkM n L (takeM n L s page kind user).1 := by
  unfold takeM
  split
  · exact h
  · exact (h.drop 0 page).fresh _ _ _
theorem OkM.find (h : OkM n L s) (page : Int) : OkM n L (findM n L s page) := by
  unfold findM
  split
  · rename_i hb
    unfold findB at hb
    simp only [Bool.and_eq_true, decide_eq_true_eq] at hb
    exact h.put ⟨rfl, done_hit hb.1.2⟩
  · exact h
end

end Go.Proofs.YtgebfagiomcmbaaGreatDoor

namespace Go.Proofs.YtgebfagiomcmbaaGreatDoor
open Go.RowKit Go.Shelf

theorem Far.refl (F : List Nat) (w : World) : Far F w w := ⟨[], Chg.refl _ _, by simp⟩
theorem Far.of_new {F : List Nat} {w w' : World} (h : Chg [] w w') : Far F w w' := ⟨[], h, by simp⟩
theorem Far.trans {F : List Nat} {a b c : World} (h : Far F a b) (k : Far F b c) : Far F a c := by
  obtain ⟨S, h1, h2⟩ := h; obtain ⟨T, k1, k2⟩ := k
  refine ⟨S ++ T, (h1.weak fun i _ hi => List.mem_append.2 (.inl hi)).trans k1 (fun i _ hi => List.mem_append.2 (.inr hi)), fun i hi => ?_⟩
  rw [List.mem_append] at hi
  rcases hi with hi | hi
  · exact h2 i hi
  · exact k2 i hi
theorem Far.less {F G : List Nat} {w w' : World} (h : Far F w w') (hG : ∀ i ∈ G, i ∈ F) : Far G w w' := by
  obtain ⟨S, h1, h2⟩ := h
  exact ⟨S, h1, fun i hi hm => h2 i hi (hG i hm)⟩

set_option maxHeartbeats 400000 in
theorem unless_any (b : Bool) (how : Int) (w : World) : Calls Tryz.prog 44 #[.bool b, .int .i64 how] w fun e w' => e = .returned (.int .i64 (if b then 0 else how)) ∧ w = w' := by
  cases b
  · go_enter Tryz.func44, Tryz.ntmps44
    go_wp2_with fail
    go_ret
    exact ⟨rfl, rfl⟩
  · go_enter Tryz.func44, Tryz.ntmps44
    go_wp2_with fail
    go_ret
    exact ⟨rfl, rfl⟩

section
variable {w0 : World} {F : List Nat} {t most : Nat} {T : List Ht} {w : World}
set_option maxHeartbeats 400000 in
theorem PForget_b (page : Int) (h : TB w0 F w t most T) :
    Calls Tryz.prog 87 #[.agg #[.pointer (some ⟨t, 0, none⟩)], .int .i64 page] w fun e w' => e = .returned (.bool (hasT T 0 page)) ∧ TB w0 F w' t most (dropT T 0 page) ∧ Far F w w' := by
  have hc0 : Chg [] w (w.alloc (.cells #[.pointer (some ⟨t, 0, none⟩)] 89)) := (Chg.refl [] w).alloc _
  have hD := TDrop_b 0 page (h.new hc0)
  clear h
  generalize hasT T 0 page = u at *
  generalize dropT T 0 page = T' at *
  go_enter Tryz.func87, Tryz.ntmps87
  go_wp2_with fail
  refine hD.mono ?_; rintro e w1 ⟨rfl, h1, f1⟩
  go_wp2_with fail
  go_ret
  exact ⟨rfl, h1, (Far.of_new hc0).trans f1⟩

set_option maxHeartbeats 1000000 in
theorem POf_b (page : Int) (h : TB w0 F w t most T) :
    Calls Tryz.prog 75 #[.agg #[.pointer (some ⟨t, 0, none⟩)], .int .i64 page] w fun e w' => e = .returned (.tuple #[(getT T 0 page).v, .bool (hasT T 0 page)]) ∧ TB w0 F w' t most T ∧ Chg [] w w' := by
  have hc0 : Chg [] w ((w.alloc (.cells #[.pointer (some ⟨t, 0, none⟩)] 89)).alloc (.cells #[.int .i64 0, .int .i64 0, .int .i64 0, .bool false, .bool false, .bool false, .bool false] 62)) := ((Chg.refl [] w).alloc _).alloc _
  have hb := Blk.new (w.alloc (.cells #[.pointer (some ⟨t, 0, none⟩)] 89)) 62 #[.int .i64 0, .int .i64 0, .int .i64 0, .bool false, .bool false, .bool false, .bool false]
  rw [World.size_alloc] at hb
  have hG := TGet_b 0 page (h.new hc0)
  have h0 := h
  clear h
  generalize hasT T 0 page = u at *
  generalize getT T 0 page = x at *
  obtain ⟨ha, hp, hf, hw, hu, hx, hd⟩ := x
  simp only [Ht.v] at *
  go_enter Tryz.func75, Tryz.ntmps75
  go_wp2_with fail
  refine hG.mono ?_; rintro e w1 ⟨rfl, _, k1⟩
  have hb1 := hb.chg_ k1 (by simp)
  have hcc := hc0.trans k1 (by simp)
  obtain ⟨r0, r1, r2, r3, r4, r5, r6, f0, f1, f2, f3, f4, f5, f6⟩ := blk7 hb1
  clear hG hb k1 hc0
  go_wp2_with fail
  refine bodyPost_ret (cell_tmp_ret rfl (set7 hb1) rfl Tryz.underlying62 rfl (by kernel_rfl)) rfl ?_
  exact ⟨rfl, h0.new (chg7 hcc (by omega)), chg7 hcc (by omega)⟩
set_option maxHeartbeats 1000000 in
theorem PLearn_b (page : Int) (A : Option Addr) (c : Nat) (P : Pa) (written : Bool) (h : TB w0 F w t most T) :
    Calls Tryz.prog 79 #[.agg #[.pointer (some ⟨t, 0, none⟩)], .int .i64 page, .agg (pathV A c P), .bool written] w fun e w' => e = .returned (hitP page P written).v ∧ TB w0 F w' t most (putT most T (hitP page P written)) ∧ Far F w w' := by
  obtain ⟨ats, pg, ⟨rw, ru, rx⟩, lg, dy⟩ := P
  have hc0 : Chg [] w (((w.alloc (.cells #[.pointer (some ⟨t, 0, none⟩)] 89)).alloc (.cells #[.slice A ats.length c, .int .i64 pg, .bool rw, .bool ru, .bool rx, .bool lg, .bool dy] 108)).alloc (.cells #[.int .i64 0, .int .i64 0, .int .i64 0, .bool false, .bool false, .bool false, .bool false] 62)) := (((Chg.refl [] w).alloc _).alloc _).alloc _
  have hF : w.heap.size + 2 ∉ F := fun hm => by have := h.2.1 _ hm; omega
  cases dy with
  | true =>
    have hc4 : Chg [] w ((((w.alloc (.cells #[.pointer (some ⟨t, 0, none⟩)] 89)).alloc (.cells #[.slice A ats.length c, .int .i64 pg, .bool rw, .bool ru, .bool rx, .bool lg, .bool true] 108)).alloc (.cells #[.int .i64 0, .int .i64 0, .int .i64 0, .bool false, .bool false, .bool false, .bool false] 62)).alloc (.cells #[.int .i64 0, .int .i64 page, .int .i64 pg, .bool rw, .bool ru, .bool rx, .bool true] 62)) := hc0.alloc _
    have hr4 := (Blk.new ((w.alloc (.cells #[.pointer (some ⟨t, 0, none⟩)] 89)).alloc (.cells #[.slice A ats.length c, .int .i64 pg, .bool rw, .bool ru, .bool rx, .bool lg, .bool true] 108)) 62 #[.int .i64 0, .int .i64 0, .int .i64 0, .bool false, .bool false, .bool false, .bool false]).alloc (.cells #[.int .i64 0, .int .i64 page, .int .i64 pg, .bool rw, .bool ru, .bool rx, .bool true] 62)
    have hx4 := Blk.new (((w.alloc (.cells #[.pointer (some ⟨t, 0, none⟩)] 89)).alloc (.cells #[.slice A ats.length c, .int .i64 pg, .bool rw, .bool ru, .bool rx, .bool lg, .bool true] 108)).alloc (.cells #[.int .i64 0, .int .i64 0, .int .i64 0, .bool false, .bool false, .bool false, .bool false] 62)) 62 #[.int .i64 0, .int .i64 page, .int .i64 pg, .bool rw, .bool ru, .bool rx, .bool true]
    simp only [World.size_alloc, Nat.add_assoc, Nat.reduceAdd] at hr4 hx4
    have h4 : TB w0 ([w.heap.size + 2, w.heap.size + 3] ++ F) ((((w.alloc (.cells #[.pointer (some ⟨t, 0, none⟩)] 89)).alloc (.cells #[.slice A ats.length c, .int .i64 pg, .bool rw, .bool ru, .bool rx, .bool lg, .bool true] 108)).alloc (.cells #[.int .i64 0, .int .i64 0, .int .i64 0, .bool false, .bool false, .bool false, .bool false] 62)).alloc (.cells #[.int .i64 0, .int .i64 page, .int .i64 pg, .bool rw, .bool ru, .bool rx, .bool true] 62)) t most T := h.more hc4 (by intro i hi; simp at hi; simp; omega)
    have hP := TPut_b ⟨0, page, pg, rw, ru, rx, true⟩ h4
    have e1 : hitP page ⟨ats, pg, ⟨rw, ru, rx⟩, lg, true⟩ written = ⟨0, page, pg, rw, ru, rx, true⟩ := by simp [hitP]
    rw [e1]
    have hs0 : w0.heap.size ≤ w.heap.size := h.1.size
    clear h h4 e1
    generalize putT most T ⟨0, page, pg, rw, ru, rx, true⟩ = T' at *
    simp only [Ht.v, pathV] at *
    go_enter Tryz.func79, Tryz.ntmps79
    go_wp2_with fail
    refine hP.mono ?_; rintro e w5 ⟨rfl, h5, f5⟩
    have hr5 := f5.blk hr4 (by simp)
    have hx5 := f5.blk hx4 (by simp)
    obtain ⟨r0, r1, r2, r3, r4, r5, r6, g0, g1, g2, g3, g4, g5, g6⟩ := blk7 hr5
    obtain ⟨x0, x1, x2, x3, x4, x5, x6, _, _, _, _, _, _, _⟩ := blk7 hx5
    clear hP hr4 hx4
    go_wp2_with fail
    refine bodyPost_ret (cell_ret rfl (set7 hr5) rfl Tryz.underlying62 rfl (by kernel_rfl)) rfl ?_
    have hcg := chg7 (y0 := .int .i64 0) (y1 := .int .i64 page) (y2 := .int .i64 pg) (y3 := .bool rw) (y4 := .bool ru) (y5 := .bool rx) (y6 := .bool true) (g := w.heap.size + 2) (Chg.refl [w.heap.size + 2] w5) (by simp)
    have h6 := h5.other hcg (by simp) (by simp; omega)
    exact ⟨rfl, h6.less (fun i hi => by simp [hi]), (Far.of_new hc4).trans ((f5.less (fun i hi => by simp [hi])).trans ⟨_, hcg, by simp; exact hF⟩)⟩
  | false =>
    have hc4 : Chg [] w ((((w.alloc (.cells #[.pointer (some ⟨t, 0, none⟩)] 89)).alloc (.cells #[.slice A ats.length c, .int .i64 pg, .bool rw, .bool ru, .bool rx, .bool lg, .bool false] 108)).alloc (.cells #[.int .i64 0, .int .i64 0, .int .i64 0, .bool false, .bool false, .bool false, .bool false] 62)).alloc (.cells #[.int .i64 0, .int .i64 page, .int .i64 pg, .bool rw, .bool ru, .bool rx, .bool written] 62)) := hc0.alloc _
    have hr4 := (Blk.new ((w.alloc (.cells #[.pointer (some ⟨t, 0, none⟩)] 89)).alloc (.cells #[.slice A ats.length c, .int .i64 pg, .bool rw, .bool ru, .bool rx, .bool lg, .bool false] 108)) 62 #[.int .i64 0, .int .i64 0, .int .i64 0, .bool false, .bool false, .bool false, .bool false]).alloc (.cells #[.int .i64 0, .int .i64 page, .int .i64 pg, .bool rw, .bool ru, .bool rx, .bool written] 62)
    have hx4 := Blk.new (((w.alloc (.cells #[.pointer (some ⟨t, 0, none⟩)] 89)).alloc (.cells #[.slice A ats.length c, .int .i64 pg, .bool rw, .bool ru, .bool rx, .bool lg, .bool false] 108)).alloc (.cells #[.int .i64 0, .int .i64 0, .int .i64 0, .bool false, .bool false, .bool false, .bool false] 62)) 62 #[.int .i64 0, .int .i64 page, .int .i64 pg, .bool rw, .bool ru, .bool rx, .bool written]
    simp only [World.size_alloc, Nat.add_assoc, Nat.reduceAdd] at hr4 hx4
    have h4 : TB w0 ([w.heap.size + 2, w.heap.size + 3] ++ F) ((((w.alloc (.cells #[.pointer (some ⟨t, 0, none⟩)] 89)).alloc (.cells #[.slice A ats.length c, .int .i64 pg, .bool rw, .bool ru, .bool rx, .bool lg, .bool false] 108)).alloc (.cells #[.int .i64 0, .int .i64 0, .int .i64 0, .bool false, .bool false, .bool false, .bool false] 62)).alloc (.cells #[.int .i64 0, .int .i64 page, .int .i64 pg, .bool rw, .bool ru, .bool rx, .bool written] 62)) t most T := h.more hc4 (by intro i hi; simp at hi; simp; omega)
    have hP := TPut_b ⟨0, page, pg, rw, ru, rx, written⟩ h4
    have e1 : hitP page ⟨ats, pg, ⟨rw, ru, rx⟩, lg, false⟩ written = ⟨0, page, pg, rw, ru, rx, written⟩ := by simp [hitP]
    rw [e1]
    have hs0 : w0.heap.size ≤ w.heap.size := h.1.size
    clear h h4 e1
    generalize putT most T ⟨0, page, pg, rw, ru, rx, written⟩ = T' at *
    simp only [Ht.v, pathV] at *
    go_enter Tryz.func79, Tryz.ntmps79
    go_wp2_with fail
    refine hP.mono ?_; rintro e w5 ⟨rfl, h5, f5⟩
    have hr5 := f5.blk hr4 (by simp)
    have hx5 := f5.blk hx4 (by simp)
    obtain ⟨r0, r1, r2, r3, r4, r5, r6, g0, g1, g2, g3, g4, g5, g6⟩ := blk7 hr5
    obtain ⟨x0, x1, x2, x3, x4, x5, x6, _, _, _, _, _, _, _⟩ := blk7 hx5
    clear hP hr4 hx4
    go_wp2_with fail
    refine bodyPost_ret (cell_ret rfl (set7 hr5) rfl Tryz.underlying62 rfl (by kernel_rfl)) rfl ?_
    have hcg := chg7 (y0 := .int .i64 0) (y1 := .int .i64 page) (y2 := .int .i64 pg) (y3 := .bool rw) (y4 := .bool ru) (y5 := .bool rx) (y6 := .bool written) (g := w.heap.size + 2) (Chg.refl [w.heap.size + 2] w5) (by simp)
    have h6 := h5.other hcg (by simp) (by simp; omega)
    exact ⟨rfl, h6.less (fun i hi => by simp [hi]), (Far.of_new hc4).trans ((f5.less (fun i hi => by simp [hi])).trans ⟨_, hcg, by simp; exact hF⟩)⟩
end

set_option maxRecDepth 100000 in
set_option maxHeartbeats 1000000 in
theorem serves_any (x : Ht) (k : Int) (u : Bool) (w : World) :
    Calls Tryz.prog 86 #[x.v, .int .i64 k, .bool u] w fun e w' => e = .returned (.bool (servesB x k u)) ∧ Chg [] w w' := by
  obtain ⟨ha, hp, hf, hw, hu, hx, hd⟩ := x
  have hc0 : Chg [] w (w.alloc (.cells #[.int .i64 ha, .int .i64 hp, .int .i64 hf, .bool hw, .bool hu, .bool hx, .bool hd] 62)) := (Chg.refl [] w).alloc _
  have hb := Blk.new w 62 #[.int .i64 ha, .int .i64 hp, .int .i64 hf, .bool hw, .bool hu, .bool hx, .bool hd]
  have hM := May_any ⟨hw, hu, hx⟩ k u (w.alloc (.cells #[.int .i64 ha, .int .i64 hp, .int .i64 hf, .bool hw, .bool hu, .bool hx, .bool hd] 62))
  unfold servesB Ht.rg
  simp only
  generalize mayB ⟨hw, hu, hx⟩ k u = m at *
  simp only [Ht.v, Rg.cs] at *
  obtain ⟨r0, r1, r2, r3, r4, r5, r6, _, _, _, _, _, _, _⟩ := blk7 hb
  have hk : (k != 1) = !(k == 1) := rfl
  generalize hkk : (k == 1) = kb at *
  have HKK := Lib.hid hkk
  clear hkk
  cases m with
  | false =>
    go_enter Tryz.func86, Tryz.ntmps86
    go_wp2_with fail
    refine hM.mono ?_; rintro e w1 ⟨rfl, k1⟩
    go_wp2_with fail
    go_ret
    exact ⟨rfl, hc0.trans k1 (by simp)⟩
  | true =>
    cases hd with
    | true =>
      go_enter Tryz.func86, Tryz.ntmps86
      go_wp2_with fail
      refine hM.mono ?_; rintro e w1 ⟨rfl, k1⟩
      obtain ⟨r0, r1, r2, r3, r4, r5, r6, _, _, _, _, _, _, _⟩ := blk7 (hb.chg_ k1 (by simp))
      go_wp2_with fail
      go_ret
      exact ⟨rfl, hc0.trans k1 (by simp)⟩
    | false =>
      go_enter Tryz.func86, Tryz.ntmps86
      go_wp2_with fail
      refine hM.mono ?_; rintro e w1 ⟨rfl, k1⟩
      obtain ⟨r0, r1, r2, r3, r4, r5, r6, _, _, _, _, _, _, _⟩ := blk7 (hb.chg_ k1 (by simp))
      go_wp2_with fail
      go_ret
      exact ⟨ret_bool (by simp), hc0.trans k1 (by simp)⟩

end Go.Proofs.YtgebfagiomcmbaaGreatDoor

namespace Go.Proofs.YtgebfagiomcmbaaGreatDoor
open Go.RowKit Go.Shelf

/-- the blocks of a model but those of what it knows -/
def mB (m q : Nat) (S : List Nat) (h b : Nat) : List Nat := m :: b :: q :: h :: S
/-- m is a model: its guest's memory q (of a map p of L, in the host h of n frames, whose words are b), what it knows lies in t; what of it turns is new since w0 and none of F; nothing of w0 has turned -/
structure ModB (w0 : World) (F : List Nat) (w : World) (m t q : Nat) (S : List Nat) (p : Nat) (L : List Int) (h b n : Nat) (s : Ms) : Prop where
  tb : TB w0 (mB m q S h b ++ F) w t 512 s.T
  gu : GuIn w q S p L h b n s.W
  st : Blk w m 91 #[.pointer (some ⟨t, 0, none⟩), .pointer (some ⟨q, 0, none⟩), .int .i64 s.r]
  er : ErrIn w0
  ok : OkM n L s
  nm : w0.heap.size ≤ m
  nb : w0.heap.size ≤ b
  ap : ∀ i ∈ mB m q S h b, i ∉ F
  ms : m ∉ b :: q :: h :: S

section
variable {w0 w w' : World} {F G : List Nat} {m t q p h b n : Nat} {S : List Nat} {L : List Int} {s : Ms}
theorem GuIn.lt {W : List Int} (g : GuIn w q S p L h b n W) : ∀ i ∈ b :: q :: h :: S, i < w.heap.size := by
  intro i hi
  simp only [List.mem_cons] at hi
  rcases hi with rfl | rfl | rfl | hi
  · exact g.hm.ws.lt
  · exact g.st.lt
  · exact g.hm.st.lt
  · exact g.mp.lt i hi
theorem ModB.c0 (H : ModB w0 F w m t q S p L h b n s) : Chg [] w0 w := H.tb.1
theorem ModB.eR (H : ModB w0 F w m t q S p L h b n s) : ErrIn w := H.er.self H.tb.1
theorem ModB.c (H : ModB w0 F w m t q S p L h b n s) : w.cell? ⟨m, 0, none⟩ = some (.pointer (some ⟨t, 0, none⟩)) ∧ w.cell? ⟨m, 1, none⟩ = some (.pointer (some ⟨q, 0, none⟩)) ∧ w.cell? ⟨m, 2, none⟩ = some (.int .i64 s.r) := blk3 H.st
theorem ModB.lt (H : ModB w0 F w m t q S p L h b n s) : ∀ i ∈ mB m q S h b, i < w.heap.size := by
  intro i hi
  rw [mB, List.mem_cons] at hi
  rcases hi with rfl | hi
  · exact H.st.lt
  · exact H.gu.lt i hi
theorem ModB.bm (H : ModB w0 F w m t q S p L h b n s) : m ≠ b := fun e => H.ms (by rw [e]; simp)
theorem ModB.new (H : ModB w0 F w m t q S p L h b n s) (hc : Chg [] w w') : ModB w0 F w' m t q S p L h b n s :=
  ⟨H.tb.new hc, H.gu.self hc, hc.blk H.st (by simp), H.er, H.ok, H.nm, H.nb, H.ap, H.ms⟩
theorem ModB.less (H : ModB w0 F w m t q S p L h b n s) (hG : ∀ i ∈ G, i ∈ F) : ModB w0 G w m t q S p L h b n s :=
  ⟨H.tb.less (fun i hi => by rw [List.mem_append] at hi ⊢; exact hi.imp id (hG i)), H.gu, H.st, H.er, H.ok, H.nm, H.nb, fun i hi hm => H.ap i hi (hG i hm), H.ms⟩
theorem ModB.more (H : ModB w0 F w m t q S p L h b n s) (hc : Chg [] w w') (hG : ∀ i ∈ G, w.heap.size ≤ i ∧ i < w'.heap.size) : ModB w0 (G ++ F) w' m t q S p L h b n s :=
  ⟨(H.tb.more hc hG).less (fun i hi => by simp only [List.mem_append] at hi ⊢; rcases hi with h | h | h <;> simp [h]), H.gu.self hc, hc.blk H.st (by simp), H.er, H.ok, H.nm, H.nb, fun i hi hm => by
    rw [List.mem_append] at hm
    rcases hm with hm | hm
    · have := (hG i hm).1; have := H.lt i hi; omega
    · exact H.ap i hi hm, H.ms⟩
theorem ModB.setT {T' : List Ht} (H : ModB w0 F w m t q S p L h b n s) (ht : TB w0 (mB m q S h b ++ F) w' t 512 T') (hf : Far (mB m q S h b ++ F) w w') (hok : OkM n L ⟨s.W, s.r, T'⟩) : ModB w0 F w' m t q S p L h b n ⟨s.W, s.r, T'⟩ := by
  obtain ⟨X, hc, hd⟩ := hf
  have hn : ∀ i ∈ mB m q S h b, i ∉ X := fun i hi hm => hd i hm (List.mem_append.2 (.inl hi))
  exact ⟨ht, H.gu.other hc (hn q (by simp [mB])) (fun i hi => hn i (by simp [mB, hi])) (hn h (by simp [mB])) (hn b (by simp [mB])), hc.blk H.st (hn m (by simp [mB])), H.er, hok, H.nm, H.nb, H.ap, H.ms⟩
theorem ModB.setW {W' : List Int} (H : ModB w0 F w m t q S p L h b n s) (hc : Chg [b] w w') (hg : GuIn w' q S p L h b n W') (hok : OkM n L ⟨W', s.r, s.T⟩) : ModB w0 F w' m t q S p L h b n ⟨W', s.r, s.T⟩ ∧ Far F w w' :=
  ⟨⟨H.tb.other hc (by simp [mB]) (by simpa using H.nb), hg, hc.blk H.st (by simpa using H.bm), H.er, hok, H.nm, H.nb, H.ap, H.ms⟩, [b], hc, by simpa using H.ap b (by simp [mB])⟩
/-- a block of one's own turned -/
theorem ModB.own {g : Nat} (H : ModB w0 (g :: F) w m t q S p L h b n s) (hc : Chg [g] w w') (hg : w0.heap.size ≤ g) : ModB w0 F w' m t q S p L h b n s := by
  have hn : ∀ i ∈ mB m q S h b, i ∉ [g] := fun i hi hm => H.ap i hi (by simp at hm; simp [hm])
  exact ⟨(H.tb.other hc (by simp) (by simpa using hg)).less (fun i hi => by rw [List.mem_append] at hi ⊢; rcases hi with hi | hi <;> simp [hi]),
    H.gu.other hc (hn q (by simp [mB])) (fun i hi => hn i (by simp [mB, hi])) (hn h (by simp [mB])) (hn b (by simp [mB])), hc.blk H.st (hn m (by simp [mB])), H.er, H.ok, H.nm, H.nb, fun i hi hm => H.ap i hi (by simp [hm]), H.ms⟩
end

/-- four cells of a block -/
theorem blk4 {w : World} {g : Nat} {t : TypeId} {x0 x1 x2 x3 : Value} (h : Blk w g t #[x0, x1, x2, x3]) : w.cell? ⟨g, 0, none⟩ = some x0 ∧ w.cell? ⟨g, 1, none⟩ = some x1 ∧ w.cell? ⟨g, 2, none⟩ = some x2 ∧ w.cell? ⟨g, 3, none⟩ = some x3 ∧ w.frozen? ⟨g, 0, none⟩ = false ∧ w.frozen? ⟨g, 1, none⟩ = false ∧ w.frozen? ⟨g, 2, none⟩ = false ∧ w.frozen? ⟨g, 3, none⟩ = false :=
  ⟨h.cell 0, h.cell 1, h.cell 2, h.cell 3, h.frozen 0, h.frozen 1, h.frozen 2, h.frozen 3⟩
theorem set4 {w : World} {g : Nat} {t : TypeId} {x0 x1 x2 x3 y0 y1 y2 y3 : Value} (h : Blk w g t #[x0, x1, x2, x3]) : Blk ((((w.setCell ⟨g, 0, none⟩ y0).setCell ⟨g, 1, none⟩ y1).setCell ⟨g, 2, none⟩ y2).setCell ⟨g, 3, none⟩ y3) g t #[y0, y1, y2, y3] := by
  have := (((h.set_ 0 y0).set_ 1 y1).set_ 2 y2).set_ 3 y3
  simpa using this
theorem chg4 {S : List Nat} {a w : World} {g : Nat} {y0 y1 y2 y3 : Value} (h : Chg S a w) (hg : g < a.heap.size → g ∈ S) : Chg S a ((((w.setCell ⟨g, 0, none⟩ y0).setCell ⟨g, 1, none⟩ y1).setCell ⟨g, 2, none⟩ y2).setCell ⟨g, 3, none⟩ y3) := (((h.setCell (p := ⟨g, 0, none⟩) hg y0).setCell (p := ⟨g, 1, none⟩) hg y1).setCell (p := ⟨g, 2, none⟩) hg y2).setCell (p := ⟨g, 3, none⟩) hg y3

section
variable (w0 w : World) (F : List Nat) (m t q p h b n : Nat) (S : List Nat) (L : List Int) (s : Ms)
set_option maxHeartbeats 1000000 in
theorem MNew_b (r : Int) (hE : ErrIn w0) (hc : Chg [] w0 w) (W : List Int) (gu : GuIn w q S p L h b n W) (hW : WdW W) (hb : w0.heap.size ≤ b) :
    Calls Tryz.prog 12 #[.pointer (some ⟨q, 0, none⟩), .int .i64 r] w fun e w' => ∃ m t, e = .returned (.pointer (some ⟨m, 0, none⟩)) ∧ ModB w0 [] w' m t q S p L h b n ⟨W, r, []⟩ ∧ Chg [] w w' := by
  have hT := TNew_b w 512 w (by omega) (by omega) (Chg.refl _ _)
  go_enter Tryz.func12, Tryz.ntmps12
  go_wp2_with fail
  refine hT.mono ?_; rintro e w1 ⟨rfl, h1, k1⟩
  go_wp2_with fail
  go_ret
  have k2 : Chg [] w (w1.alloc (.cells #[.pointer (some ⟨w.heap.size, 0, none⟩), .pointer (some ⟨q, 0, none⟩), .int .i64 r] 91)) := k1.alloc _
  have hms : w1.heap.size ∉ b :: q :: h :: S := fun hm => by have := gu.lt _ hm; have := k1.size; omega
  obtain ⟨_, _, X, h3, h4⟩ := h1
  refine ⟨_, _, rfl, ⟨⟨hc.trans k2 (by simp), fun i hi => ?_, X, h3.self ((Chg.refl [] w1).alloc _), fun i hi => ⟨?_, fun hm => ?_⟩⟩, gu.self k2, Blk.new _ _ _, hE, ⟨hW, gu.hm.len, by simp⟩, by have := hc.size; have := k1.size; omega, hb, by simp, hms⟩, k2⟩
  · rw [List.append_nil, mB, List.mem_cons] at hi
    rcases hi with rfl | hi
    · simp
    · exact Nat.lt_of_lt_of_le (gu.lt i hi) k2.size
  · have := (h4 i hi).1; have := hc.size; omega
  · rw [List.append_nil, mB, List.mem_cons] at hm
    rcases hm with rfl | hm
    · exact absurd (h3.lt _ hi) (by omega)
    · have := gu.lt i hm; have := (h4 i hi).1; omega
end

section
variable {w0 w : World} {F : List Nat} {m t q p h b n : Nat} {S : List Nat} {L : List Int} {s : Ms}
theorem Far.app {F G : List Nat} {w w' : World} (h : Far (G ++ F) w w') : Far F w w' := h.less fun _ hi => List.mem_append.2 (.inr hi)

set_option maxHeartbeats 1000000 in
theorem MForget_b (page : Int) (H : ModB w0 F w m t q S p L h b n s) :
    Calls Tryz.prog 100 #[.pointer (some ⟨m, 0, none⟩), .int .i64 page] w fun e w' => e = .returned (.bool (hasT s.T 0 page)) ∧ ModB w0 F w' m t q S p L h b n (forgetM s page) ∧ Far F w w' := by
  obtain ⟨c0, c1, c2⟩ := H.c
  have hP := PForget_b page H.tb
  have H0 := H
  clear H
  generalize hasT s.T 0 page = u at *
  go_enter Tryz.func100, Tryz.ntmps100
  go_wp2_with fail
  refine hP.mono ?_; rintro e w1 ⟨rfl, h1, f1⟩
  go_wp2_with fail
  go_ret
  exact ⟨rfl, H0.setT h1 f1 (H0.ok.drop _ _), f1.app⟩

set_option maxHeartbeats 1000000 in
theorem MAll_b (H : ModB w0 F w m t q S p L h b n s) :
    Calls Tryz.prog 21 #[.pointer (some ⟨m, 0, none⟩)] w fun e w' => ∃ A c, e = .returned (.slice A s.T.length c) ∧ Chg [] w w' ∧ OwnH w' (.slice A s.T.length c) s.T ∧ ∀ g ∈ (Value.slice A s.T.length c).ownBlock.toList, w.heap.size ≤ g := by
  obtain ⟨c0, c1, c2⟩ := H.c
  obtain ⟨_, _, X, h3, _⟩ := H.tb
  have hA := TList_at X t 512 s.T w h3
  clear H h3
  go_enter Tryz.func21, Tryz.ntmps21
  go_wp2_with fail
  refine hA.mono ?_; rintro e w2 ⟨v, rfl, k2, ho, hg⟩
  obtain ⟨A, c, rfl, _, _⟩ := ho.form
  go_wp2_with fail
  go_ret
  exact ⟨A, c, rfl, k2, ho, hg⟩

set_option maxHeartbeats 1000000 in
theorem MTouch_b (g i k v : Int) (hv : 0 ≤ v ∧ v < 18446744073709551616) (H : ModB w0 F w m t q S p L h b n s) :
    Calls Tryz.prog 51 #[.pointer (some ⟨m, 0, none⟩), .int .i64 g, .int .i64 i, .int .i64 k, .int .u64 v] w fun e w' => e = .returned (.agg (touchM n L s g i k v).2.cs) ∧ ModB w0 F w' m t q S p L h b n (touchM n L s g i k v).1 ∧ Far F w w' := by
  have hc0 : Chg [] w (w.alloc (.cells #[.int .i64 0, .int .u64 0, .int .i64 0, .int .u64 0] 39)) := (Chg.refl [] w).alloc _
  have hr := Blk.new w 39 #[.int .i64 0, .int .u64 0, .int .i64 0, .int .u64 0]
  have H1 := H.more (G := [w.heap.size]) hc0 (by intro i hi; simp at hi; subst hi; simp)
  obtain ⟨c0, c1, c2⟩ := H.c
  have hmlt := H.st.lt
  have hs0 : w0.heap.size ≤ w.heap.size := H.c0.size
  have hF : w.heap.size ∉ F := fun hm => by have := H.tb.2.1 _ (List.mem_append.2 (.inr hm)); omega
  have hbr : w.heap.size ≠ b := fun e => H1.ap b (by simp [mB]) (by simp [e])
  unfold touchM
  have H0 := H
  clear H
  by_cases hk : k = 1
  · subst hk
    have hG := GuSet_at q S p L h b n s.W g i v _ H1.gu
    have hok := H1.ok.set g i hv
    generalize hasG n L g i = u at *
    generalize setG n s.W L g i v = W' at *
    simp only [Ot.cs, Ot.zero, beq_self_eq_true, if_true]
    go_enter Tryz.func51, Tryz.ntmps51
    go_wp2_with fail
    refine hG.mono ?_; rintro e w2 ⟨rfl, k2, g2⟩
    obtain ⟨H2, f2⟩ := H1.setW k2 g2 hok
    have hr2 := f2.blk hr (by simp)
    obtain ⟨r0, r1, r2, r3, z0, z1, z2, z3⟩ := blk4 hr2
    clear hG hr g2 k2
    go_wp2_with fail
    refine bodyPost_ret (cell_ret rfl (set4 hr2) rfl Tryz.underlying39 rfl (by kernel_rfl)) rfl ?_
    have hcg := chg4 (y0 := .int .i64 0) (y1 := .int .u64 0) (y2 := .int .i64 0) (y3 := .int .u64 0) (g := w.heap.size) (Chg.refl [w.heap.size] w2) (by simp)
    exact ⟨rfl, H2.own hcg hs0, (Far.of_new hc0).trans ((f2.less (fun i hi => by simp [hi])).trans ⟨_, hcg, by simpa using hF⟩)⟩
  · have hk' : (k == 1) = false := by simpa using hk
    have hG := GuGet_at q S p L h b n s.W g i _ H1.gu
    rw [hk']
    generalize hasG n L g i = u at *
    generalize getG n s.W L g i = x at *
    simp only [Ot.cs, Bool.false_eq_true, if_false]
    obtain ⟨r0, r1, r2, r3, z0, z1, z2, z3⟩ := blk4 hr
    go_enter Tryz.func51, Tryz.ntmps51
    go_wp2_with fail
    refine hG.mono ?_; rintro e w2 ⟨rfl, rfl⟩
    go_wp2_with fail
    refine bodyPost_ret (cell_ret rfl (Blk.new _ _ _) rfl Tryz.underlying39 rfl (by kernel_rfl)) rfl ?_
    exact ⟨rfl, H0.new ((Chg.refl [] w).alloc _), Far.of_new ((Chg.refl [] w).alloc _)⟩
end

end Go.Proofs.YtgebfagiomcmbaaGreatDoor

namespace Go.Proofs.YtgebfagiomcmbaaGreatDoor
open Go.RowKit Go.Shelf

section
variable {w0 w : World} {F : List Nat} {m t q p h b n : Nat} {S : List Nat} {L : List Int} {s : Ms}
/-- a Walk from the model's root, anywhere behind w -/
theorem ModB.walk (H : ModB w0 F w m t q S p L h b n s) (page k : Int) (u : Bool) (P : Pa) (how code : Int) (hr : walkP n s.W L s.r page k u = (P, how, code)) :
    ∀ w1, Chg [] w w1 → Calls Tryz.prog 77 #[.pointer (some ⟨q, 0, none⟩), .int .i64 s.r, .int .i64 page, .int .i64 k, .bool u] w1 fun e w' =>
      ∃ A c, e = .returned (.tuple #[.agg (pathV A c P), .int .i64 how, .int .i64 code]) ∧ OwnA w' 158 (.slice A P.ats.length c) P.ats ∧ (∀ g ∈ (Value.slice A P.ats.length c).ownBlock.toList, w1.heap.size ≤ g) ∧ Chg [] w1 w' :=
  fun w1 hc => Walk_is q S p L h b n s.W s.r page k u P how code w1 (H.new hc).eR (H.new hc).gu H.ok.wd hr

set_option maxRecDepth 100000 in
set_option maxHeartbeats 8000000 in
theorem fresh_not (page k : Int) (u : Bool) (H : ModB w0 F w m t q S p L h b n s) (how code : Int) (hr : walkP n s.W L s.r page k u = (Pa.zero, how, code)) (hne0 : (how == 0) = false) :
    Calls Tryz.prog 88 #[.pointer (some ⟨m, 0, none⟩), .int .i64 page, .int .i64 k, .bool u] w fun e w' => e = .returned (.tuple #[Ht.zero.v, .int .i64 how, .int .i64 code]) ∧ ModB w0 F w' m t q S p L h b n s ∧ Far F w w' := by
  have hc1 : Chg [] w (w.alloc (.cells #[.int .i64 0, .int .i64 0, .int .i64 0, .bool false, .bool false, .bool false, .bool false] 62)) := (Chg.refl [] w).alloc _
  have hr1 := Blk.new w 62 #[.int .i64 0, .int .i64 0, .int .i64 0, .bool false, .bool false, .bool false, .bool false]
  have hWk := (H.new hc1).walk page k u Pa.zero how code hr
  have hm1 : Blk (w.alloc (.cells #[.int .i64 0, .int .i64 0, .int .i64 0, .bool false, .bool false, .bool false, .bool false] 62)) m 91 #[.pointer (some ⟨t, 0, none⟩), .pointer (some ⟨q, 0, none⟩), .int .i64 s.r] := H.st.alloc _
  clear hr
  rw [show Pa.zero = ⟨[], 0, ⟨false, false, false⟩, false, false⟩ from rfl] at *
  simp only [pathV, List.length_nil] at *
  have H0 := H
  have hs0 := H.c0.size
  have hFw : ∀ i ∈ F, i < w.heap.size := fun i hi => H.tb.2.1 i (List.mem_append.2 (.inr hi))
  clear H
  obtain ⟨sW, sr, sT⟩ := s
  simp only at *
  go_enter Tryz.func88, Tryz.ntmps88
  go_wp2_with fail
  have hw1 : (w.alloc (.cells #[.int .i64 0, .int .i64 0, .int .i64 0, .bool false, .bool false, .bool false, .bool false] 62)).heap.size = w.heap.size + 1 := by simp
  generalize hww : w.alloc (.cells #[.int .i64 0, .int .i64 0, .int .i64 0, .bool false, .bool false, .bool false, .bool false] 62) = w1 at *
  clear hww
  refine wp_region_noPanic ?_
  refine wp_region_held_drew (S := (fun w' => Blk w' m 91 #[.pointer (some ⟨t, 0, none⟩), .pointer (some ⟨q, 0, none⟩), .int .i64 sr])) (by kernel_rfl) ?_ (fun hHeld => ?_)
  · exact hm1.drew
  (refine take_on 0 (some 16) (v := ?_) rfl rfl (by kernel_rfl) (by kernel_rfl) (by kernel_rfl) (fun _ _ _ h => h) (by rfl) (by assumption) ?_ ?_; rotate_left; · (intro w hSw; (try dsimp only at hSw); obtain ⟨c0_, c1_, c2_⟩ := blk3 hSw; go_simp; (try with_reducible rfl)))
  (try simp only [Act.put, List.setIfInBounds_toArray, List.set_cons_zero, List.set_cons_succ])
  (refine take_on 1 (some 17) (v := ?_) rfl rfl (by kernel_rfl) (by kernel_rfl) (by kernel_rfl) (fun _ _ _ h => h) (by rfl) (by assumption) ?_ ?_; rotate_left; · (intro w hSw; (try dsimp only at hSw); obtain ⟨c0_, c1_, c2_⟩ := blk3 hSw; go_simp; (try with_reducible rfl)))
  (try simp only [Act.put, List.setIfInBounds_toArray, List.set_cons_zero, List.set_cons_succ])
  (refine take_on 2 (some 18) (v := ?_) rfl rfl (by kernel_rfl) (by kernel_rfl) (by kernel_rfl) (fun _ _ _ h => h) (by rfl) (by assumption) ?_ ?_; rotate_left; · (intro w hSw; (try dsimp only at hSw); obtain ⟨c0_, c1_, c2_⟩ := blk3 hSw; go_simp; (try with_reducible rfl)))
  (try simp only [Act.put, List.setIfInBounds_toArray, List.set_cons_zero, List.set_cons_succ])
  (refine take_on 3 (some 19) (v := ?_) rfl rfl (by kernel_rfl) (by kernel_rfl) (by kernel_rfl) (fun _ _ _ h => h) (by rfl) (by assumption) ?_ ?_; rotate_left; · (intro w hSw; (try dsimp only at hSw); obtain ⟨c0_, c1_, c2_⟩ := blk3 hSw; go_simp; (try with_reducible rfl)))
  (try simp only [Act.put, List.setIfInBounds_toArray, List.set_cons_zero, List.set_cons_succ])
  (refine take_on 4 (some 20) (v := ?_) rfl rfl (by kernel_rfl) (by kernel_rfl) (by kernel_rfl) (fun _ _ _ h => h) (by rfl) (by assumption) ?_ ?_; rotate_left; · (intro w hSw; (try dsimp only at hSw); obtain ⟨c0_, c1_, c2_⟩ := blk3 hSw; go_simp; (try with_reducible rfl)))
  (try simp only [Act.put, List.setIfInBounds_toArray, List.set_cons_zero, List.set_cons_succ])
  (refine take_on 5 (some 21) (v := ?_) rfl rfl (by kernel_rfl) (by kernel_rfl) (by kernel_rfl) (fun _ _ _ h => h) (by rfl) (by assumption) ?_ ?_; rotate_left; · (intro w hSw; (try dsimp only at hSw); obtain ⟨c0_, c1_, c2_⟩ := blk3 hSw; go_simp; (try with_reducible rfl)))
  (try simp only [Act.put, List.setIfInBounds_toArray, List.set_cons_zero, List.set_cons_succ])
  (refine take_on 6 (some 22) (v := ?_) rfl rfl (by kernel_rfl) (by kernel_rfl) (by kernel_rfl) (fun _ _ _ h => h) (by rfl) (by assumption) ?_ ?_; rotate_left; · (intro w hSw; (try dsimp only at hSw); obtain ⟨c0_, c1_, c2_⟩ := blk3 hSw; go_simp; (try with_reducible rfl)))
  (try simp only [Act.put, List.setIfInBounds_toArray, List.set_cons_zero, List.set_cons_succ])
  (refine take_on 7 (some 23) (v := ?_) rfl rfl (by kernel_rfl) (by kernel_rfl) (by kernel_rfl) (fun _ _ _ h => h) (by rfl) (by assumption) ?_ ?_; rotate_left; · (intro w hSw; (try dsimp only at hSw); obtain ⟨c0_, c1_, c2_⟩ := blk3 hSw; go_simp; (try with_reducible rfl)))
  (try simp only [Act.put, List.setIfInBounds_toArray, List.set_cons_zero, List.set_cons_succ])
  (refine take_on 8 (some 24) (v := ?_) rfl rfl (by kernel_rfl) (by kernel_rfl) (by kernel_rfl) (fun _ _ _ h => h) (by rfl) (by assumption) ?_ ?_; rotate_left; · (intro w hSw; (try dsimp only at hSw); obtain ⟨c0_, c1_, c2_⟩ := blk3 hSw; go_simp; (try with_reducible rfl)))
  (try simp only [Act.put, List.setIfInBounds_toArray, List.set_cons_zero, List.set_cons_succ])
  (refine take_on 9 (some 25) (v := ?_) rfl rfl (by kernel_rfl) (by kernel_rfl) (by kernel_rfl) (fun _ _ _ h => h) (by rfl) (by assumption) ?_ ?_; rotate_left; · (intro w hSw; (try dsimp only at hSw); obtain ⟨c0_, c1_, c2_⟩ := blk3 hSw; go_simp; (try with_reducible rfl)))
  (try simp only [Act.put, List.setIfInBounds_toArray, List.set_cons_zero, List.set_cons_succ])
  (refine take_on 10 (some 26) (v := ?_) rfl rfl (by kernel_rfl) (by kernel_rfl) (by kernel_rfl) (fun _ _ _ h => h) (by rfl) (by assumption) ?_ ?_; rotate_left; · (intro w hSw; (try dsimp only at hSw); obtain ⟨c0_, c1_, c2_⟩ := blk3 hSw; go_simp; (try with_reducible rfl)))
  (try simp only [Act.put, List.setIfInBounds_toArray, List.set_cons_zero, List.set_cons_succ])
  refine wpAnyH_ready (rs := [11, 16]) (by kernel_rfl) (by simp) ?_; refine AllReadyH.cons (o := _) rfl (fun K hK => ?_) (AllReadyH.cons (o := _) rfl (fun K hK => ?_) AllReadyH.nil)
  · go_simp
    (go_at_call 77; refine (hWk _ ((Chg.refl [] w1).drew)).mono ?_; rintro e u1 ⟨A, c, rfl, r1, l1, y1⟩; simp only at *)
    refine hK.out _ _ (by (try dsimp only); exact hHeld.chg_ y1 (by simp)) (fun hHeld => ?_)
    clear hK K
    (try simp only [Act.put, List.setIfInBounds_toArray, List.set_cons_zero, List.set_cons_succ])
    (refine take_on 12 (some 15) (v := ?_) rfl rfl (by kernel_rfl) (by kernel_rfl) (by kernel_rfl) (fun _ _ _ h => h) (by rfl) (by assumption) ?_ ?_; rotate_left; · (intro w hSw; (try dsimp only at hSw); go_simp; (try with_reducible rfl)))
    (try simp only [Act.put, List.setIfInBounds_toArray, List.set_cons_zero, List.set_cons_succ])
    (refine take_on 13 (some 28) (v := ?_) rfl rfl (by kernel_rfl) (by kernel_rfl) (by kernel_rfl) (fun _ _ _ h => h) (by rfl) (by assumption) ?_ ?_; rotate_left; · (intro w hSw; (try dsimp only at hSw); go_simp; (try with_reducible rfl)))
    (try simp only [Act.put, List.setIfInBounds_toArray, List.set_cons_zero, List.set_cons_succ])
    (refine take_on 14 (some 29) (v := ?_) rfl rfl (by kernel_rfl) (by kernel_rfl) (by kernel_rfl) (fun _ _ _ h => h) (by rfl) (by assumption) ?_ ?_; rotate_left; · (intro w hSw; (try dsimp only at hSw); go_simp; (try with_reducible rfl)))
    (try simp only [Act.put, List.setIfInBounds_toArray, List.set_cons_zero, List.set_cons_succ])
    (refine take_on 15 (some 30) (v := ?_) rfl rfl (by kernel_rfl) (by kernel_rfl) (by kernel_rfl) (fun _ _ _ h => h) (by rfl) (by assumption) ?_ ?_; rotate_left; · (intro w hSw; (try dsimp only at hSw); go_simp; (try with_reducible rfl)))
    (try simp only [Act.put, List.setIfInBounds_toArray, List.set_cons_zero, List.set_cons_succ])
    refine wpAnyH_ready (rs := [16]) (by kernel_rfl) (by simp) ?_; refine AllReadyH.cons (o := _) rfl (fun K hK => ?_) AllReadyH.nil
    go_simp
    skip
    refine hK.out _ _ (by (try dsimp only); exact Blk.alloc hHeld _) (fun hHeld => ?_)
    clear hK K
    (try simp only [Act.put, List.setIfInBounds_toArray, List.set_cons_zero, List.set_cons_succ])
    have x0 : Chg [] w1 (u1.alloc (.cells #[.slice none 0 0, .int .i64 0, .bool false, .bool false, .bool false, .bool false, .bool false] 108)) := (((Chg.refl [] w1).drew).trans y1 (by simp)).alloc _
    have hp0 := Blk.new u1 108 #[.slice none 0 0, .int .i64 0, .bool false, .bool false, .bool false, .bool false, .bool false]
    have hne : m ≠ u1.heap.size := by have h1 := hm1.lt; have h2 := x0.size; have h3 := y1.size; simp at h2 h3; omega
    have hlo : ∀ g ∈ (Value.slice A 0 c).ownBlock.toList, w1.heap.size ≤ g ∧ g ≠ u1.heap.size := fun g hg => ⟨by simpa using l1 g hg, by have := OwnA.lt r1 g hg; omega⟩
    have r2 := OwnA.self r1 ((Chg.refl [] u1).alloc (.cells #[.slice none 0 0, .int .i64 0, .bool false, .bool false, .bool false, .bool false, .bool false] 108))
    have hpl : w1.heap.size ≤ u1.heap.size := by simpa using y1.size
    clear r1 l1 y1
    generalize hu2 : u1.alloc (.cells #[.slice none 0 0, .int .i64 0, .bool false, .bool false, .bool false, .bool false, .bool false] 108) = u2 at *
    generalize u1.heap.size = pb at *
    clear hu2
    obtain ⟨z0, z1, z2, z3, z4, z5, z6, g0, g1, g2, g3, g4, g5, g6⟩ := blk7 hp0
    refine wpAnyH_ready (rs := [17]) (by kernel_rfl) (by simp) ?_; refine AllReadyH.cons (o := _) rfl (fun K hK => ?_) AllReadyH.nil
    go_simp
    skip
    refine hK.out _ _ (by (try dsimp only); exact far7 hHeld hne) (fun hHeld => ?_)
    clear hK K
    (try simp only [Act.put, List.setIfInBounds_toArray, List.set_cons_zero, List.set_cons_succ])
    (refine take_on 18 (some 12) (v := ?_) rfl rfl (by kernel_rfl) (by kernel_rfl) (by kernel_rfl) (fun _ _ _ h => h) (by rfl) (by assumption) ?_ ?_; rotate_left; · (intro w hSw; (try dsimp only at hSw); go_simp; (try with_reducible rfl)))
    (try simp only [Act.put, List.setIfInBounds_toArray, List.set_cons_zero, List.set_cons_succ])
    (refine take_on 19 (some 13) (v := ?_) rfl rfl (by kernel_rfl) (by kernel_rfl) (by kernel_rfl) (fun _ _ _ h => h) (by rfl) (by assumption) ?_ ?_; rotate_left; · (intro w hSw; (try dsimp only at hSw); go_simp; (try with_reducible rfl)))
    (try simp only [Act.put, List.setIfInBounds_toArray, List.set_cons_zero, List.set_cons_succ])
    refine wpAnyH_done (by kernel_rfl) ?_ _
    refine NoPanic.normal ?_
    have hp3 := set7 (y0 := .slice A 0 c) (y1 := .int .i64 0) (y2 := .bool false) (y3 := .bool false) (y4 := .bool false) (y5 := .bool false) (y6 := .bool false) hp0
    have x3 : Chg [] w1 _ := x0.trans (chg7 (y0 := .slice A 0 c) (y1 := .int .i64 0) (y2 := .bool false) (y3 := .bool false) (y4 := .bool false) (y5 := .bool false) (y6 := .bool false) (g := pb) (Chg.refl [pb] u2) (by simp)) (by intro i hi hm; simp at hm; subst hm; omega)
    have r3 := OwnA.chg r2 (chg7 (y0 := .slice A 0 c) (y1 := .int .i64 0) (y2 := .bool false) (y3 := .bool false) (y4 := .bool false) (y5 := .bool false) (y6 := .bool false) (g := pb) (Chg.refl [pb] u2) (by simp)) (fun g hg hm => by simp at hm; exact (hlo g hg).2 hm)
    have hpb := hp3.lt
    clear hHeld r2 hp0 x0 z0 z1 z2 z3 z4 z5 z6 g0 g1 g2 g3 g4 g5 g6
    generalize ((((((u2.setCell ⟨pb, 0, none⟩ (.slice A 0 c)).setCell ⟨pb, 1, none⟩ (.int .i64 0)).setCell ⟨pb, 2, none⟩ (.bool false)).setCell ⟨pb, 3, none⟩ (.bool false)).setCell ⟨pb, 4, none⟩ (.bool false)).setCell ⟨pb, 5, none⟩ (.bool false)).setCell ⟨pb, 6, none⟩ (.bool false) = w3 at *
    have hlo := fun g hg => (hlo g hg).1
    clear hne hWk
    have hr3 := hr1.chg_ x3 (by simp)
    have k3 : Chg [] w w3 := hc1.trans x3 (by simp)
    have H3 := H0.more (G := [w.heap.size, pb]) k3 (by intro i hi; simp at hi; have := hr3.lt; omega)
    clear x3 hc1 hr1 hm1
    obtain ⟨z0, z1, z2, z3, z4, z5, z6, g0, g1, g2, g3, g4, g5, g6⟩ := blk7 hr3
    go_wp2_with fail
    refine bodyPost_ret (cell_tmps_ret rfl (set7 hr3) rfl Tryz.underlying62 rfl (by kernel_rfl)) rfl ?_
    have hk3 := chg7 (y0 := .int .i64 0) (y1 := .int .i64 0) (y2 := .int .i64 0) (y3 := .bool false) (y4 := .bool false) (y5 := .bool false) (y6 := .bool false) (g := w.heap.size) (Chg.refl [w.heap.size] w3) (by simp)
    exact ⟨rfl, (H3.less (G := w.heap.size :: F) (fun i hi => by simp at hi ⊢; rcases hi with h | h <;> simp [h])).own hk3 hs0, (Far.of_new k3).trans ⟨_, hk3, by simp; exact fun hm => by have := hFw _ hm; omega⟩⟩
  · go_simp
    skip
    refine hK.out _ _ (by (try dsimp only); exact Blk.alloc hHeld _) (fun hHeld => ?_)
    clear hK K
    (try simp only [Act.put, List.setIfInBounds_toArray, List.set_cons_zero, List.set_cons_succ])
    have x9 : Chg [] w1 (w1.drew.alloc (.cells #[.slice none 0 0, .int .i64 0, .bool false, .bool false, .bool false, .bool false, .bool false] 108)) := ((Chg.refl [] w1).drew).alloc _
    have hp9 : Blk (w1.drew.alloc (.cells #[.slice none 0 0, .int .i64 0, .bool false, .bool false, .bool false, .bool false, .bool false] 108)) w1.heap.size 108 #[.slice none 0 0, .int .i64 0, .bool false, .bool false, .bool false, .bool false, .bool false] := Blk.new w1.drew _ _
    rw [hw1] at hp9
    refine wpAnyH_ready (rs := [11]) (by kernel_rfl) (by simp) ?_; refine AllReadyH.cons (o := _) rfl (fun K hK => ?_) AllReadyH.nil
    go_simp
    (go_at_call 77; refine (hWk _ x9).mono ?_; rintro e u1 ⟨A, c, rfl, r1, l1, y1⟩; simp only at *)
    refine hK.out _ _ (by (try dsimp only); exact hHeld.chg_ y1 (by simp)) (fun hHeld => ?_)
    clear hK K
    (try simp only [Act.put, List.setIfInBounds_toArray, List.set_cons_zero, List.set_cons_succ])
    (refine take_on 12 (some 15) (v := ?_) rfl rfl (by kernel_rfl) (by kernel_rfl) (by kernel_rfl) (fun _ _ _ h => h) (by rfl) (by assumption) ?_ ?_; rotate_left; · (intro w hSw; (try dsimp only at hSw); go_simp; (try with_reducible rfl)))
    (try simp only [Act.put, List.setIfInBounds_toArray, List.set_cons_zero, List.set_cons_succ])
    (refine take_on 13 (some 28) (v := ?_) rfl rfl (by kernel_rfl) (by kernel_rfl) (by kernel_rfl) (fun _ _ _ h => h) (by rfl) (by assumption) ?_ ?_; rotate_left; · (intro w hSw; (try dsimp only at hSw); go_simp; (try with_reducible rfl)))
    (try simp only [Act.put, List.setIfInBounds_toArray, List.set_cons_zero, List.set_cons_succ])
    (refine take_on 14 (some 29) (v := ?_) rfl rfl (by kernel_rfl) (by kernel_rfl) (by kernel_rfl) (fun _ _ _ h => h) (by rfl) (by assumption) ?_ ?_; rotate_left; · (intro w hSw; (try dsimp only at hSw); go_simp; (try with_reducible rfl)))
    (try simp only [Act.put, List.setIfInBounds_toArray, List.set_cons_zero, List.set_cons_succ])
    (refine take_on 15 (some 30) (v := ?_) rfl rfl (by kernel_rfl) (by kernel_rfl) (by kernel_rfl) (fun _ _ _ h => h) (by rfl) (by assumption) ?_ ?_; rotate_left; · (intro w hSw; (try dsimp only at hSw); go_simp; (try with_reducible rfl)))
    (try simp only [Act.put, List.setIfInBounds_toArray, List.set_cons_zero, List.set_cons_succ])
    have x0 : Chg [] w1 u1 := x9.trans y1 (by simp)
    have hp0 := hp9.chg_ y1 (by simp)
    obtain ⟨pb, hpe⟩ : ∃ pb, pb = w.heap.size + 1 := ⟨_, rfl⟩
    have hne : m ≠ pb := by have h1 := hm1.lt; omega
    have hlo : ∀ g ∈ (Value.slice A 0 c).ownBlock.toList, w1.heap.size ≤ g ∧ g ≠ pb := fun g hg => by have := l1 g hg; simp at this; omega
    have hpl : w1.heap.size ≤ pb := by omega
    rw [← hpe] at hp0 ⊢
    have r2 := r1
    clear r1 l1 y1 x9 hp9 hpe
    generalize hu2 : u1 = u2 at *
    clear hu2
    obtain ⟨z0, z1, z2, z3, z4, z5, z6, g0, g1, g2, g3, g4, g5, g6⟩ := blk7 hp0
    refine wpAnyH_ready (rs := [17]) (by kernel_rfl) (by simp) ?_; refine AllReadyH.cons (o := _) rfl (fun K hK => ?_) AllReadyH.nil
    go_simp
    skip
    refine hK.out _ _ (by (try dsimp only); exact far7 hHeld hne) (fun hHeld => ?_)
    clear hK K
    (try simp only [Act.put, List.setIfInBounds_toArray, List.set_cons_zero, List.set_cons_succ])
    (refine take_on 18 (some 12) (v := ?_) rfl rfl (by kernel_rfl) (by kernel_rfl) (by kernel_rfl) (fun _ _ _ h => h) (by rfl) (by assumption) ?_ ?_; rotate_left; · (intro w hSw; (try dsimp only at hSw); go_simp; (try with_reducible rfl)))
    (try simp only [Act.put, List.setIfInBounds_toArray, List.set_cons_zero, List.set_cons_succ])
    (refine take_on 19 (some 13) (v := ?_) rfl rfl (by kernel_rfl) (by kernel_rfl) (by kernel_rfl) (fun _ _ _ h => h) (by rfl) (by assumption) ?_ ?_; rotate_left; · (intro w hSw; (try dsimp only at hSw); go_simp; (try with_reducible rfl)))
    (try simp only [Act.put, List.setIfInBounds_toArray, List.set_cons_zero, List.set_cons_succ])
    refine wpAnyH_done (by kernel_rfl) ?_ _
    refine NoPanic.normal ?_
    have hp3 := set7 (y0 := .slice A 0 c) (y1 := .int .i64 0) (y2 := .bool false) (y3 := .bool false) (y4 := .bool false) (y5 := .bool false) (y6 := .bool false) hp0
    have x3 : Chg [] w1 _ := x0.trans (chg7 (y0 := .slice A 0 c) (y1 := .int .i64 0) (y2 := .bool false) (y3 := .bool false) (y4 := .bool false) (y5 := .bool false) (y6 := .bool false) (g := pb) (Chg.refl [pb] u2) (by simp)) (by intro i hi hm; simp at hm; subst hm; omega)
    have r3 := OwnA.chg r2 (chg7 (y0 := .slice A 0 c) (y1 := .int .i64 0) (y2 := .bool false) (y3 := .bool false) (y4 := .bool false) (y5 := .bool false) (y6 := .bool false) (g := pb) (Chg.refl [pb] u2) (by simp)) (fun g hg hm => by simp at hm; exact (hlo g hg).2 hm)
    have hpb := hp3.lt
    clear hHeld r2 hp0 x0 z0 z1 z2 z3 z4 z5 z6 g0 g1 g2 g3 g4 g5 g6
    generalize ((((((u2.setCell ⟨pb, 0, none⟩ (.slice A 0 c)).setCell ⟨pb, 1, none⟩ (.int .i64 0)).setCell ⟨pb, 2, none⟩ (.bool false)).setCell ⟨pb, 3, none⟩ (.bool false)).setCell ⟨pb, 4, none⟩ (.bool false)).setCell ⟨pb, 5, none⟩ (.bool false)).setCell ⟨pb, 6, none⟩ (.bool false) = w3 at *
    have hlo := fun g hg => (hlo g hg).1
    clear hne hWk
    have hr3 := hr1.chg_ x3 (by simp)
    have k3 : Chg [] w w3 := hc1.trans x3 (by simp)
    have H3 := H0.more (G := [w.heap.size, pb]) k3 (by intro i hi; simp at hi; have := hr3.lt; omega)
    clear x3 hc1 hr1 hm1
    obtain ⟨z0, z1, z2, z3, z4, z5, z6, g0, g1, g2, g3, g4, g5, g6⟩ := blk7 hr3
    go_wp2_with fail
    refine bodyPost_ret (cell_tmps_ret rfl (set7 hr3) rfl Tryz.underlying62 rfl (by kernel_rfl)) rfl ?_
    have hk3 := chg7 (y0 := .int .i64 0) (y1 := .int .i64 0) (y2 := .int .i64 0) (y3 := .bool false) (y4 := .bool false) (y5 := .bool false) (y6 := .bool false) (g := w.heap.size) (Chg.refl [w.heap.size] w3) (by simp)
    exact ⟨rfl, (H3.less (G := w.heap.size :: F) (fun i hi => by simp at hi ⊢; rcases hi with h | h <;> simp [h])).own hk3 hs0, (Far.of_new k3).trans ⟨_, hk3, by simp; exact fun hm => by have := hFw _ hm; omega⟩⟩

set_option maxRecDepth 100000 in
set_option maxHeartbeats 8000000 in
theorem fresh_done (page k : Int) (u : Bool) (P : Pa) (H : ModB w0 F w m t q S p L h b n s) (hr : walkP n s.W L s.r page k u = (P, 0, 0)) :
    Calls Tryz.prog 88 #[.pointer (some ⟨m, 0, none⟩), .int .i64 page, .int .i64 k, .bool u] w fun e w' => e = .returned (.tuple #[(hitP page P (k == 1)).v, .int .i64 0, .int .i64 0]) ∧ ModB w0 F w' m t q S p L h b n ⟨markP n L P.ats (k == 1) s.W, s.r, putT 512 s.T (hitP page P (k == 1))⟩ ∧ Far F w w' := by
  have hc1 : Chg [] w (w.alloc (.cells #[.int .i64 0, .int .i64 0, .int .i64 0, .bool false, .bool false, .bool false, .bool false] 62)) := (Chg.refl [] w).alloc _
  have hr1 := Blk.new w 62 #[.int .i64 0, .int .i64 0, .int .i64 0, .bool false, .bool false, .bool false, .bool false]
  have hWk := (H.new hc1).walk page k u P 0 0 hr
  have hm1 : Blk (w.alloc (.cells #[.int .i64 0, .int .i64 0, .int .i64 0, .bool false, .bool false, .bool false, .bool false] 62)) m 91 #[.pointer (some ⟨t, 0, none⟩), .pointer (some ⟨q, 0, none⟩), .int .i64 s.r] := H.st.alloc _
  have hlen := walk_len hr
  have hall : P.ats.length ≤ 9223372036854775807 := by omega
  have hgl := (done_of hr).2
  clear hr
  obtain ⟨ats, pg, ⟨rw, ru, rx⟩, lg, dy⟩ := P
  simp only [pathV] at *
  have H0 := H
  have hs0 := H.c0.size
  have hFw : ∀ i ∈ F, i < w.heap.size := fun i hi => H.tb.2.1 i (List.mem_append.2 (.inr hi))
  clear H
  obtain ⟨sW, sr, sT⟩ := s
  simp only at *
  generalize hkb : (k == 1) = kb at *
  have HE5 := Lib.hid (show hitP page ⟨ats, pg, ⟨rw, ru, rx⟩, lg, dy⟩ kb = ⟨0, page, pg, rw, ru, rx, dy || kb⟩ from rfl)
  rw [show hitP page ⟨ats, pg, ⟨rw, ru, rx⟩, lg, dy⟩ kb = ⟨0, page, pg, rw, ru, rx, dy || kb⟩ from rfl]
  generalize (dy || kb) = dk at *
  generalize hW4 : markP n L ats kb sW = W4 at *
  have HW4 := Lib.hid hW4
  generalize hT4 : putT 512 sT ⟨0, page, pg, rw, ru, rx, dk⟩ = T4 at *
  have HT4 := Lib.hid hT4
  clear hW4 hT4
  simp only [Ht.v]
  go_enter Tryz.func88, Tryz.ntmps88
  go_wp2_with fail
  have hw1 : (w.alloc (.cells #[.int .i64 0, .int .i64 0, .int .i64 0, .bool false, .bool false, .bool false, .bool false] 62)).heap.size = w.heap.size + 1 := by simp
  generalize hww : w.alloc (.cells #[.int .i64 0, .int .i64 0, .int .i64 0, .bool false, .bool false, .bool false, .bool false] 62) = w1 at *
  clear hww
  refine wp_region_noPanic ?_
  refine wp_region_held_drew (S := (fun w' => Blk w' m 91 #[.pointer (some ⟨t, 0, none⟩), .pointer (some ⟨q, 0, none⟩), .int .i64 sr])) (by kernel_rfl) ?_ (fun hHeld => ?_)
  · exact hm1.drew
  (refine take_on 0 (some 16) (v := ?_) rfl rfl (by kernel_rfl) (by kernel_rfl) (by kernel_rfl) (fun _ _ _ h => h) (by rfl) (by assumption) ?_ ?_; rotate_left; · (intro w hSw; (try dsimp only at hSw); obtain ⟨c0_, c1_, c2_⟩ := blk3 hSw; go_simp; (try with_reducible rfl)))
  (try simp only [Act.put, List.setIfInBounds_toArray, List.set_cons_zero, List.set_cons_succ])
  (refine take_on 1 (some 17) (v := ?_) rfl rfl (by kernel_rfl) (by kernel_rfl) (by kernel_rfl) (fun _ _ _ h => h) (by rfl) (by assumption) ?_ ?_; rotate_left; · (intro w hSw; (try dsimp only at hSw); obtain ⟨c0_, c1_, c2_⟩ := blk3 hSw; go_simp; (try with_reducible rfl)))
  (try simp only [Act.put, List.setIfInBounds_toArray, List.set_cons_zero, List.set_cons_succ])
  (refine take_on 2 (some 18) (v := ?_) rfl rfl (by kernel_rfl) (by kernel_rfl) (by kernel_rfl) (fun _ _ _ h => h) (by rfl) (by assumption) ?_ ?_; rotate_left; · (intro w hSw; (try dsimp only at hSw); obtain ⟨c0_, c1_, c2_⟩ := blk3 hSw; go_simp; (try with_reducible rfl)))
  (try simp only [Act.put, List.setIfInBounds_toArray, List.set_cons_zero, List.set_cons_succ])
  (refine take_on 3 (some 19) (v := ?_) rfl rfl (by kernel_rfl) (by kernel_rfl) (by kernel_rfl) (fun _ _ _ h => h) (by rfl) (by assumption) ?_ ?_; rotate_left; · (intro w hSw; (try dsimp only at hSw); obtain ⟨c0_, c1_, c2_⟩ := blk3 hSw; go_simp; (try with_reducible rfl)))
  (try simp only [Act.put, List.setIfInBounds_toArray, List.set_cons_zero, List.set_cons_succ])
  (refine take_on 4 (some 20) (v := ?_) rfl rfl (by kernel_rfl) (by kernel_rfl) (by kernel_rfl) (fun _ _ _ h => h) (by rfl) (by assumption) ?_ ?_; rotate_left; · (intro w hSw; (try dsimp only at hSw); obtain ⟨c0_, c1_, c2_⟩ := blk3 hSw; go_simp; (try with_reducible rfl)))
  (try simp only [Act.put, List.setIfInBounds_toArray, List.set_cons_zero, List.set_cons_succ])
  (refine take_on 5 (some 21) (v := ?_) rfl rfl (by kernel_rfl) (by kernel_rfl) (by kernel_rfl) (fun _ _ _ h => h) (by rfl) (by assumption) ?_ ?_; rotate_left; · (intro w hSw; (try dsimp only at hSw); obtain ⟨c0_, c1_, c2_⟩ := blk3 hSw; go_simp; (try with_reducible rfl)))
  (try simp only [Act.put, List.setIfInBounds_toArray, List.set_cons_zero, List.set_cons_succ])
  (refine take_on 6 (some 22) (v := ?_) rfl rfl (by kernel_rfl) (by kernel_rfl) (by kernel_rfl) (fun _ _ _ h => h) (by rfl) (by assumption) ?_ ?_; rotate_left; · (intro w hSw; (try dsimp only at hSw); obtain ⟨c0_, c1_, c2_⟩ := blk3 hSw; go_simp; (try with_reducible rfl)))
  (try simp only [Act.put, List.setIfInBounds_toArray, List.set_cons_zero, List.set_cons_succ])
  (refine take_on 7 (some 23) (v := ?_) rfl rfl (by kernel_rfl) (by kernel_rfl) (by kernel_rfl) (fun _ _ _ h => h) (by rfl) (by assumption) ?_ ?_; rotate_left; · (intro w hSw; (try dsimp only at hSw); obtain ⟨c0_, c1_, c2_⟩ := blk3 hSw; go_simp; (try with_reducible rfl)))
  (try simp only [Act.put, List.setIfInBounds_toArray, List.set_cons_zero, List.set_cons_succ])
  (refine take_on 8 (some 24) (v := ?_) rfl rfl (by kernel_rfl) (by kernel_rfl) (by kernel_rfl) (fun _ _ _ h => h) (by rfl) (by assumption) ?_ ?_; rotate_left; · (intro w hSw; (try dsimp only at hSw); obtain ⟨c0_, c1_, c2_⟩ := blk3 hSw; go_simp; (try with_reducible rfl)))
  (try simp only [Act.put, List.setIfInBounds_toArray, List.set_cons_zero, List.set_cons_succ])
  (refine take_on 9 (some 25) (v := ?_) rfl rfl (by kernel_rfl) (by kernel_rfl) (by kernel_rfl) (fun _ _ _ h => h) (by rfl) (by assumption) ?_ ?_; rotate_left; · (intro w hSw; (try dsimp only at hSw); obtain ⟨c0_, c1_, c2_⟩ := blk3 hSw; go_simp; (try with_reducible rfl)))
  (try simp only [Act.put, List.setIfInBounds_toArray, List.set_cons_zero, List.set_cons_succ])
  (refine take_on 10 (some 26) (v := ?_) rfl rfl (by kernel_rfl) (by kernel_rfl) (by kernel_rfl) (fun _ _ _ h => h) (by rfl) (by assumption) ?_ ?_; rotate_left; · (intro w hSw; (try dsimp only at hSw); obtain ⟨c0_, c1_, c2_⟩ := blk3 hSw; go_simp; (try with_reducible rfl)))
  (try simp only [Act.put, List.setIfInBounds_toArray, List.set_cons_zero, List.set_cons_succ])
  refine wpAnyH_ready (rs := [11, 16]) (by kernel_rfl) (by simp) ?_; refine AllReadyH.cons (o := _) rfl (fun K hK => ?_) (AllReadyH.cons (o := _) rfl (fun K hK => ?_) AllReadyH.nil)
  · go_simp
    (go_at_call 77; refine (hWk _ ((Chg.refl [] w1).drew)).mono ?_; rintro e u1 ⟨A, c, rfl, r1, l1, y1⟩; simp only at *)
    refine hK.out _ _ (by (try dsimp only); exact hHeld.chg_ y1 (by simp)) (fun hHeld => ?_)
    clear hK K
    (try simp only [Act.put, List.setIfInBounds_toArray, List.set_cons_zero, List.set_cons_succ])
    (refine take_on 12 (some 15) (v := ?_) rfl rfl (by kernel_rfl) (by kernel_rfl) (by kernel_rfl) (fun _ _ _ h => h) (by rfl) (by assumption) ?_ ?_; rotate_left; · (intro w hSw; (try dsimp only at hSw); go_simp; (try with_reducible rfl)))
    (try simp only [Act.put, List.setIfInBounds_toArray, List.set_cons_zero, List.set_cons_succ])
    (refine take_on 13 (some 28) (v := ?_) rfl rfl (by kernel_rfl) (by kernel_rfl) (by kernel_rfl) (fun _ _ _ h => h) (by rfl) (by assumption) ?_ ?_; rotate_left; · (intro w hSw; (try dsimp only at hSw); go_simp; (try with_reducible rfl)))
    (try simp only [Act.put, List.setIfInBounds_toArray, List.set_cons_zero, List.set_cons_succ])
    (refine take_on 14 (some 29) (v := ?_) rfl rfl (by kernel_rfl) (by kernel_rfl) (by kernel_rfl) (fun _ _ _ h => h) (by rfl) (by assumption) ?_ ?_; rotate_left; · (intro w hSw; (try dsimp only at hSw); go_simp; (try with_reducible rfl)))
    (try simp only [Act.put, List.setIfInBounds_toArray, List.set_cons_zero, List.set_cons_succ])
    (refine take_on 15 (some 30) (v := ?_) rfl rfl (by kernel_rfl) (by kernel_rfl) (by kernel_rfl) (fun _ _ _ h => h) (by rfl) (by assumption) ?_ ?_; rotate_left; · (intro w hSw; (try dsimp only at hSw); go_simp; (try with_reducible rfl)))
    (try simp only [Act.put, List.setIfInBounds_toArray, List.set_cons_zero, List.set_cons_succ])
    refine wpAnyH_ready (rs := [16]) (by kernel_rfl) (by simp) ?_; refine AllReadyH.cons (o := _) rfl (fun K hK => ?_) AllReadyH.nil
    go_simp
    skip
    refine hK.out _ _ (by (try dsimp only); exact Blk.alloc hHeld _) (fun hHeld => ?_)
    clear hK K
    (try simp only [Act.put, List.setIfInBounds_toArray, List.set_cons_zero, List.set_cons_succ])
    have x0 : Chg [] w1 (u1.alloc (.cells #[.slice none 0 0, .int .i64 0, .bool false, .bool false, .bool false, .bool false, .bool false] 108)) := (((Chg.refl [] w1).drew).trans y1 (by simp)).alloc _
    have hp0 := Blk.new u1 108 #[.slice none 0 0, .int .i64 0, .bool false, .bool false, .bool false, .bool false, .bool false]
    have hne : m ≠ u1.heap.size := by have h1 := hm1.lt; have h2 := x0.size; have h3 := y1.size; simp at h2 h3; omega
    have hlo : ∀ g ∈ (Value.slice A ats.length c).ownBlock.toList, w1.heap.size ≤ g ∧ g ≠ u1.heap.size := fun g hg => ⟨by simpa using l1 g hg, by have := OwnA.lt r1 g hg; omega⟩
    have r2 := OwnA.self r1 ((Chg.refl [] u1).alloc (.cells #[.slice none 0 0, .int .i64 0, .bool false, .bool false, .bool false, .bool false, .bool false] 108))
    have hpl : w1.heap.size ≤ u1.heap.size := by simpa using y1.size
    clear r1 l1 y1
    generalize hu2 : u1.alloc (.cells #[.slice none 0 0, .int .i64 0, .bool false, .bool false, .bool false, .bool false, .bool false] 108) = u2 at *
    generalize u1.heap.size = pb at *
    clear hu2
    obtain ⟨z0, z1, z2, z3, z4, z5, z6, g0, g1, g2, g3, g4, g5, g6⟩ := blk7 hp0
    refine wpAnyH_ready (rs := [17]) (by kernel_rfl) (by simp) ?_; refine AllReadyH.cons (o := _) rfl (fun K hK => ?_) AllReadyH.nil
    go_simp
    skip
    refine hK.out _ _ (by (try dsimp only); exact far7 hHeld hne) (fun hHeld => ?_)
    clear hK K
    (try simp only [Act.put, List.setIfInBounds_toArray, List.set_cons_zero, List.set_cons_succ])
    (refine take_on 18 (some 12) (v := ?_) rfl rfl (by kernel_rfl) (by kernel_rfl) (by kernel_rfl) (fun _ _ _ h => h) (by rfl) (by assumption) ?_ ?_; rotate_left; · (intro w hSw; (try dsimp only at hSw); go_simp; (try with_reducible rfl)))
    (try simp only [Act.put, List.setIfInBounds_toArray, List.set_cons_zero, List.set_cons_succ])
    (refine take_on 19 (some 13) (v := ?_) rfl rfl (by kernel_rfl) (by kernel_rfl) (by kernel_rfl) (fun _ _ _ h => h) (by rfl) (by assumption) ?_ ?_; rotate_left; · (intro w hSw; (try dsimp only at hSw); go_simp; (try with_reducible rfl)))
    (try simp only [Act.put, List.setIfInBounds_toArray, List.set_cons_zero, List.set_cons_succ])
    refine wpAnyH_done (by kernel_rfl) ?_ _
    refine NoPanic.normal ?_
    have hp3 := set7 (y0 := .slice A ats.length c) (y1 := .int .i64 pg) (y2 := .bool rw) (y3 := .bool ru) (y4 := .bool rx) (y5 := .bool lg) (y6 := .bool dy) hp0
    have x3 : Chg [] w1 _ := x0.trans (chg7 (y0 := .slice A ats.length c) (y1 := .int .i64 pg) (y2 := .bool rw) (y3 := .bool ru) (y4 := .bool rx) (y5 := .bool lg) (y6 := .bool dy) (g := pb) (Chg.refl [pb] u2) (by simp)) (by intro i hi hm; simp at hm; subst hm; omega)
    have r3 := OwnA.chg r2 (chg7 (y0 := .slice A ats.length c) (y1 := .int .i64 pg) (y2 := .bool rw) (y3 := .bool ru) (y4 := .bool rx) (y5 := .bool lg) (y6 := .bool dy) (g := pb) (Chg.refl [pb] u2) (by simp)) (fun g hg hm => by simp at hm; exact (hlo g hg).2 hm)
    have hpb := hp3.lt
    clear hHeld r2 hp0 x0 z0 z1 z2 z3 z4 z5 z6 g0 g1 g2 g3 g4 g5 g6
    generalize ((((((u2.setCell ⟨pb, 0, none⟩ (.slice A ats.length c)).setCell ⟨pb, 1, none⟩ (.int .i64 pg)).setCell ⟨pb, 2, none⟩ (.bool rw)).setCell ⟨pb, 3, none⟩ (.bool ru)).setCell ⟨pb, 4, none⟩ (.bool rx)).setCell ⟨pb, 5, none⟩ (.bool lg)).setCell ⟨pb, 6, none⟩ (.bool dy) = w3 at *
    have hlo := fun g hg => (hlo g hg).1
    clear hne hWk
    have hr3 := hr1.chg_ x3 (by simp)
    have k3 : Chg [] w w3 := hc1.trans x3 (by simp)
    have H3 := H0.more (G := [w.heap.size, pb]) k3 (by intro i hi; simp at hi; have := hr3.lt; omega)
    clear x3 hc1 hr1 hm1
    have hsl := OwnA.sla r3
    have hap : ∀ g o, A = some ⟨g, o, none⟩ → g ≠ b := fun g o e => by have h1 := hlo g (by rw [e]; simp [Value.ownBlock]); have h2 := H0.lt b (by simp [mB]); omega
    have hmk := fun w9 (k9 : Chg [] w3 w9) => Mark_at q S p L h b n sW A c ⟨ats, pg, ⟨rw, ru, rx⟩, lg, dy⟩ kb w9 (H3.gu.self k9) H3.ok.wd (hsl.self k9) hall hap
    simp only [pathV, HW4.out] at hmk
    go_wp2_with fail
    clear hkb
    refine wp_region_noPanic ?_
    refine wp_region_held_drew (S := (fun w' => Blk w' m 91 #[.pointer (some ⟨t, 0, none⟩), .pointer (some ⟨q, 0, none⟩), .int .i64 sr] ∧ Blk w' pb 108 #[.slice A ats.length c, .int .i64 pg, .bool rw, .bool ru, .bool rx, .bool lg, .bool dy])) (by kernel_rfl) ?_ (fun hHeld => ?_)
    · exact ⟨H3.st.drew, hp3.drew⟩
    (refine take_on 0 (some 38) (v := ?_) rfl rfl (by kernel_rfl) (by kernel_rfl) (by kernel_rfl) (fun _ _ _ h => h) (by rfl) (by assumption) ?_ ?_; rotate_left; · (intro w hSw; (try dsimp only at hSw); obtain ⟨hSm, hSp⟩ := hSw; obtain ⟨c0_, c1_, c2_⟩ := blk3 hSm; obtain ⟨z0_, z1_, z2_, z3_, z4_, z5_, z6_, _, _, _, _, _, _, _⟩ := blk7 hSp; go_simp; (try with_reducible rfl)))
    (try simp only [Act.put, List.setIfInBounds_toArray, List.set_cons_zero, List.set_cons_succ])
    (refine take_on 1 (some 39) (v := ?_) rfl rfl (by kernel_rfl) (by kernel_rfl) (by kernel_rfl) (fun _ _ _ h => h) (by rfl) (by assumption) ?_ ?_; rotate_left; · (intro w hSw; (try dsimp only at hSw); obtain ⟨hSm, hSp⟩ := hSw; obtain ⟨c0_, c1_, c2_⟩ := blk3 hSm; obtain ⟨z0_, z1_, z2_, z3_, z4_, z5_, z6_, _, _, _, _, _, _, _⟩ := blk7 hSp; go_simp; (try with_reducible rfl)))
    (try simp only [Act.put, List.setIfInBounds_toArray, List.set_cons_zero, List.set_cons_succ])
    (refine take_on 2 (some 40) (v := ?_) rfl rfl (by kernel_rfl) (by kernel_rfl) (by kernel_rfl) (fun _ _ _ h => h) (by rfl) (by assumption) ?_ ?_; rotate_left; · (intro w hSw; (try dsimp only at hSw); obtain ⟨hSm, hSp⟩ := hSw; obtain ⟨c0_, c1_, c2_⟩ := blk3 hSm; obtain ⟨z0_, z1_, z2_, z3_, z4_, z5_, z6_, _, _, _, _, _, _, _⟩ := blk7 hSp; go_simp; (try with_reducible rfl)))
    (try simp only [Act.put, List.setIfInBounds_toArray, List.set_cons_zero, List.set_cons_succ])
    (refine take_on 3 (some 41) (v := ?_) rfl rfl (by kernel_rfl) (by kernel_rfl) (by kernel_rfl) (fun _ _ _ h => h) (by rfl) (by assumption) ?_ ?_; rotate_left; · (intro w hSw; (try dsimp only at hSw); obtain ⟨hSm, hSp⟩ := hSw; obtain ⟨c0_, c1_, c2_⟩ := blk3 hSm; obtain ⟨z0_, z1_, z2_, z3_, z4_, z5_, z6_, _, _, _, _, _, _, _⟩ := blk7 hSp; go_simp; (try with_reducible rfl)))
    (try simp only [Act.put, List.setIfInBounds_toArray, List.set_cons_zero, List.set_cons_succ])
    (refine take_on 4 (some 42) (v := ?_) rfl rfl (by kernel_rfl) (by kernel_rfl) (by kernel_rfl) (fun _ _ _ h => h) (by rfl) (by assumption) ?_ ?_; rotate_left; · (intro w hSw; (try dsimp only at hSw); obtain ⟨hSm, hSp⟩ := hSw; obtain ⟨c0_, c1_, c2_⟩ := blk3 hSm; obtain ⟨z0_, z1_, z2_, z3_, z4_, z5_, z6_, _, _, _, _, _, _, _⟩ := blk7 hSp; go_simp; (try with_reducible rfl)))
    (try simp only [Act.put, List.setIfInBounds_toArray, List.set_cons_zero, List.set_cons_succ])
    (refine take_on 5 (some 43) (v := ?_) rfl rfl (by kernel_rfl) (by kernel_rfl) (by kernel_rfl) (fun _ _ _ h => h) (by rfl) (by assumption) ?_ ?_; rotate_left; · (intro w hSw; (try dsimp only at hSw); obtain ⟨hSm, hSp⟩ := hSw; obtain ⟨c0_, c1_, c2_⟩ := blk3 hSm; obtain ⟨z0_, z1_, z2_, z3_, z4_, z5_, z6_, _, _, _, _, _, _, _⟩ := blk7 hSp; go_simp; (try with_reducible rfl)))
    (try simp only [Act.put, List.setIfInBounds_toArray, List.set_cons_zero, List.set_cons_succ])
    refine wpAnyH_ready (rs := [6]) (by kernel_rfl) (by simp) ?_; refine AllReadyH.cons (o := _) rfl (fun K hK => ?_) AllReadyH.nil
    go_simp
    (go_at_call 116; refine (hmk _ ((Chg.refl [] w3).drew)).mono ?_; rintro e w4 ⟨rfl, y4, g4_⟩)
    refine hK.out _ _ (by (try dsimp only); exact ⟨y4.blk hHeld.1 (by simpa using H3.bm), y4.blk hHeld.2 (by have := H3.ap b (by simp [mB]); simp at this ⊢; exact fun e => this.2.1 e.symm)⟩) (fun hHeld => ?_)
    clear hK K
    (try simp only [Act.put, List.setIfInBounds_toArray, List.set_cons_zero, List.set_cons_succ])
    refine wpAnyH_done (by kernel_rfl) ?_ _
    refine NoPanic.normal ?_
    obtain ⟨H4, f4⟩ := (H3.new ((Chg.refl [] w3).drew)).setW y4 g4_ (HW4.out ▸ H3.ok.mark ats kb)
    have f4 := (Far.of_new ((Chg.refl [] w3).drew)).trans f4
    have hr4 := f4.blk hr3 (by simp)
    have hp4 := f4.blk hp3 (by simp)
    clear hHeld hmk hsl hap g4_ y4 hr3 hp3 r3
    have hle := fun w9 (k9 : Chg [] w4 w9) => PLearn_b page A c ⟨ats, pg, ⟨rw, ru, rx⟩, lg, dy⟩ kb (H4.new k9).tb
    simp only [pathV, Ht.v, HE5.out, HT4.out] at hle
    go_wp2_with fail
    refine wp_region_noPanic ?_
    refine wp_region_held_drew (S := (fun w' => Blk w' m 91 #[.pointer (some ⟨t, 0, none⟩), .pointer (some ⟨q, 0, none⟩), .int .i64 sr] ∧ Blk w' pb 108 #[.slice A ats.length c, .int .i64 pg, .bool rw, .bool ru, .bool rx, .bool lg, .bool dy])) (by kernel_rfl) ?_ (fun hHeld => ?_)
    · exact ⟨H4.st.drew, hp4.drew⟩
    (refine take_on 0 (some 45) (v := ?_) rfl rfl (by kernel_rfl) (by kernel_rfl) (by kernel_rfl) (fun _ _ _ h => h) (by rfl) (by assumption) ?_ ?_; rotate_left; · (intro w hSw; (try dsimp only at hSw); obtain ⟨hSm, hSp⟩ := hSw; obtain ⟨c0_, c1_, c2_⟩ := blk3 hSm; obtain ⟨z0_, z1_, z2_, z3_, z4_, z5_, z6_, _, _, _, _, _, _, _⟩ := blk7 hSp; go_simp; (try with_reducible rfl)))
    (try simp only [Act.put, List.setIfInBounds_toArray, List.set_cons_zero, List.set_cons_succ])
    (refine take_on 1 (some 46) (v := ?_) rfl rfl (by kernel_rfl) (by kernel_rfl) (by kernel_rfl) (fun _ _ _ h => h) (by rfl) (by assumption) ?_ ?_; rotate_left; · (intro w hSw; (try dsimp only at hSw); obtain ⟨hSm, hSp⟩ := hSw; obtain ⟨c0_, c1_, c2_⟩ := blk3 hSm; obtain ⟨z0_, z1_, z2_, z3_, z4_, z5_, z6_, _, _, _, _, _, _, _⟩ := blk7 hSp; go_simp; (try with_reducible rfl)))
    (try simp only [Act.put, List.setIfInBounds_toArray, List.set_cons_zero, List.set_cons_succ])
    (refine take_on 2 (some 47) (v := ?_) rfl rfl (by kernel_rfl) (by kernel_rfl) (by kernel_rfl) (fun _ _ _ h => h) (by rfl) (by assumption) ?_ ?_; rotate_left; · (intro w hSw; (try dsimp only at hSw); obtain ⟨hSm, hSp⟩ := hSw; obtain ⟨c0_, c1_, c2_⟩ := blk3 hSm; obtain ⟨z0_, z1_, z2_, z3_, z4_, z5_, z6_, _, _, _, _, _, _, _⟩ := blk7 hSp; go_simp; (try with_reducible rfl)))
    (try simp only [Act.put, List.setIfInBounds_toArray, List.set_cons_zero, List.set_cons_succ])
    (refine take_on 3 (some 48) (v := ?_) rfl rfl (by kernel_rfl) (by kernel_rfl) (by kernel_rfl) (fun _ _ _ h => h) (by rfl) (by assumption) ?_ ?_; rotate_left; · (intro w hSw; (try dsimp only at hSw); obtain ⟨hSm, hSp⟩ := hSw; obtain ⟨c0_, c1_, c2_⟩ := blk3 hSm; obtain ⟨z0_, z1_, z2_, z3_, z4_, z5_, z6_, _, _, _, _, _, _, _⟩ := blk7 hSp; go_simp; (try with_reducible rfl)))
    (try simp only [Act.put, List.setIfInBounds_toArray, List.set_cons_zero, List.set_cons_succ])
    (refine take_on 4 (some 49) (v := ?_) rfl rfl (by kernel_rfl) (by kernel_rfl) (by kernel_rfl) (fun _ _ _ h => h) (by rfl) (by assumption) ?_ ?_; rotate_left; · (intro w hSw; (try dsimp only at hSw); obtain ⟨hSm, hSp⟩ := hSw; obtain ⟨c0_, c1_, c2_⟩ := blk3 hSm; obtain ⟨z0_, z1_, z2_, z3_, z4_, z5_, z6_, _, _, _, _, _, _, _⟩ := blk7 hSp; go_simp; (try with_reducible rfl)))
    (try simp only [Act.put, List.setIfInBounds_toArray, List.set_cons_zero, List.set_cons_succ])
    (refine take_on 5 (some 50) (v := ?_) rfl rfl (by kernel_rfl) (by kernel_rfl) (by kernel_rfl) (fun _ _ _ h => h) (by rfl) (by assumption) ?_ ?_; rotate_left; · (intro w hSw; (try dsimp only at hSw); obtain ⟨hSm, hSp⟩ := hSw; obtain ⟨c0_, c1_, c2_⟩ := blk3 hSm; obtain ⟨z0_, z1_, z2_, z3_, z4_, z5_, z6_, _, _, _, _, _, _, _⟩ := blk7 hSp; go_simp; (try with_reducible rfl)))
    (try simp only [Act.put, List.setIfInBounds_toArray, List.set_cons_zero, List.set_cons_succ])
    (refine take_on 6 (some 51) (v := ?_) rfl rfl (by kernel_rfl) (by kernel_rfl) (by kernel_rfl) (fun _ _ _ h => h) (by rfl) (by assumption) ?_ ?_; rotate_left; · (intro w hSw; (try dsimp only at hSw); obtain ⟨hSm, hSp⟩ := hSw; obtain ⟨c0_, c1_, c2_⟩ := blk3 hSm; obtain ⟨z0_, z1_, z2_, z3_, z4_, z5_, z6_, _, _, _, _, _, _, _⟩ := blk7 hSp; go_simp; (try with_reducible rfl)))
    (try simp only [Act.put, List.setIfInBounds_toArray, List.set_cons_zero, List.set_cons_succ])
    refine wpAnyH_ready (rs := [7]) (by kernel_rfl) (by simp) ?_; refine AllReadyH.cons (o := _) rfl (fun K hK => ?_) AllReadyH.nil
    go_simp
    (go_at_call 79; refine (hle _ ((Chg.refl [] w4).drew)).mono ?_; rintro e w5 ⟨rfl, h5, f5⟩; have hr5 := f5.blk hr4.drew (by simp); obtain ⟨z0, z1, z2, z3, z4, z5, z6, g0, g1, g2, g3, g4, g5, g6⟩ := blk7 hr5)
    refine hK.out _ _ (by (try dsimp only); exact ⟨f5.blk hHeld.1 (by simp [mB]), f5.blk hHeld.2 (by simp)⟩) (fun hHeld => ?_)
    clear hK K
    (try simp only [Act.put, List.setIfInBounds_toArray, List.set_cons_zero, List.set_cons_succ])
    refine wpAnyH_ready (rs := [8]) (by kernel_rfl) (by simp) ?_; refine AllReadyH.cons (o := _) rfl (fun K hK => ?_) AllReadyH.nil
    go_simp
    skip
    refine hK.out _ _ (by (try dsimp only); exact ⟨far7 hHeld.1 (by have h1 := H0.lt m (by simp [mB]); omega), far7 hHeld.2 (by omega)⟩) (fun hHeld => ?_)
    clear hK K
    (try simp only [Act.put, List.setIfInBounds_toArray, List.set_cons_zero, List.set_cons_succ])
    (refine take_on 9 (some 9) (v := ?_) rfl rfl (by kernel_rfl) (by kernel_rfl) (by kernel_rfl) (fun _ _ _ h => h) (by rfl) (by assumption) ?_ ?_; rotate_left; · (intro w hSw; (try dsimp only at hSw); go_simp; (try with_reducible rfl)))
    (try simp only [Act.put, List.setIfInBounds_toArray, List.set_cons_zero, List.set_cons_succ])
    (refine take_on 10 (some 10) (v := ?_) rfl rfl (by kernel_rfl) (by kernel_rfl) (by kernel_rfl) (fun _ _ _ h => h) (by rfl) (by assumption) ?_ ?_; rotate_left; · (intro w hSw; (try dsimp only at hSw); go_simp; (try with_reducible rfl)))
    (try simp only [Act.put, List.setIfInBounds_toArray, List.set_cons_zero, List.set_cons_succ])
    refine wpAnyH_done (by kernel_rfl) ?_ _
    refine NoPanic.normal ?_
    have H5 := (H4.new ((Chg.refl [] w4).drew)).setT h5 f5 (H4.ok.put (x := ⟨0, page, pg, rw, ru, rx, dk⟩) ⟨rfl, path_g0 hgl.1, hgl.2.2⟩ |> fun hh => HT4.out ▸ hh)
    go_wp2_with fail
    refine bodyPost_ret (cell_tmps_ret rfl (set7 hr5) rfl Tryz.underlying62 rfl (by kernel_rfl)) rfl ?_
    have hk3 := chg7 (y0 := .int .i64 0) (y1 := .int .i64 page) (y2 := .int .i64 pg) (y3 := .bool rw) (y4 := .bool ru) (y5 := .bool rx) (y6 := .bool dk) (g := w.heap.size) (Chg.refl [w.heap.size] w5) (by simp)
    exact ⟨rfl, (H5.less (G := w.heap.size :: F) (fun i hi => by simp at hi ⊢; rcases hi with h | h <;> simp [h])).own hk3 hs0, (Far.of_new k3).trans ((f4.less (fun i hi => by simp [hi])).trans ((Far.of_new ((Chg.refl [] w4).drew)).trans ((f5.less (fun i hi => by simp [hi])).trans ⟨_, hk3, by simp; exact fun hm => by have := hFw _ hm; omega⟩)))⟩
  · go_simp
    skip
    refine hK.out _ _ (by (try dsimp only); exact Blk.alloc hHeld _) (fun hHeld => ?_)
    clear hK K
    (try simp only [Act.put, List.setIfInBounds_toArray, List.set_cons_zero, List.set_cons_succ])
    have x9 : Chg [] w1 (w1.drew.alloc (.cells #[.slice none 0 0, .int .i64 0, .bool false, .bool false, .bool false, .bool false, .bool false] 108)) := ((Chg.refl [] w1).drew).alloc _
    have hp9 : Blk (w1.drew.alloc (.cells #[.slice none 0 0, .int .i64 0, .bool false, .bool false, .bool false, .bool false, .bool false] 108)) w1.heap.size 108 #[.slice none 0 0, .int .i64 0, .bool false, .bool false, .bool false, .bool false, .bool false] := Blk.new w1.drew _ _
    rw [hw1] at hp9
    refine wpAnyH_ready (rs := [11]) (by kernel_rfl) (by simp) ?_; refine AllReadyH.cons (o := _) rfl (fun K hK => ?_) AllReadyH.nil
    go_simp
    (go_at_call 77; refine (hWk _ x9).mono ?_; rintro e u1 ⟨A, c, rfl, r1, l1, y1⟩; simp only at *)
    refine hK.out _ _ (by (try dsimp only); exact hHeld.chg_ y1 (by simp)) (fun hHeld => ?_)
    clear hK K
    (try simp only [Act.put, List.setIfInBounds_toArray, List.set_cons_zero, List.set_cons_succ])
    (refine take_on 12 (some 15) (v := ?_) rfl rfl (by kernel_rfl) (by kernel_rfl) (by kernel_rfl) (fun _ _ _ h => h) (by rfl) (by assumption) ?_ ?_; rotate_left; · (intro w hSw; (try dsimp only at hSw); go_simp; (try with_reducible rfl)))
    (try simp only [Act.put, List.setIfInBounds_toArray, List.set_cons_zero, List.set_cons_succ])
    (refine take_on 13 (some 28) (v := ?_) rfl rfl (by kernel_rfl) (by kernel_rfl) (by kernel_rfl) (fun _ _ _ h => h) (by rfl) (by assumption) ?_ ?_; rotate_left; · (intro w hSw; (try dsimp only at hSw); go_simp; (try with_reducible rfl)))
    (try simp only [Act.put, List.setIfInBounds_toArray, List.set_cons_zero, List.set_cons_succ])
    (refine take_on 14 (some 29) (v := ?_) rfl rfl (by kernel_rfl) (by kernel_rfl) (by kernel_rfl) (fun _ _ _ h => h) (by rfl) (by assumption) ?_ ?_; rotate_left; · (intro w hSw; (try dsimp only at hSw); go_simp; (try with_reducible rfl)))
    (try simp only [Act.put, List.setIfInBounds_toArray, List.set_cons_zero, List.set_cons_succ])
    (refine take_on 15 (some 30) (v := ?_) rfl rfl (by kernel_rfl) (by kernel_rfl) (by kernel_rfl) (fun _ _ _ h => h) (by rfl) (by assumption) ?_ ?_; rotate_left; · (intro w hSw; (try dsimp only at hSw); go_simp; (try with_reducible rfl)))
    (try simp only [Act.put, List.setIfInBounds_toArray, List.set_cons_zero, List.set_cons_succ])
    have x0 : Chg [] w1 u1 := x9.trans y1 (by simp)
    have hp0 := hp9.chg_ y1 (by simp)
    obtain ⟨pb, hpe⟩ : ∃ pb, pb = w.heap.size + 1 := ⟨_, rfl⟩
    have hne : m ≠ pb := by have h1 := hm1.lt; omega
    have hlo : ∀ g ∈ (Value.slice A ats.length c).ownBlock.toList, w1.heap.size ≤ g ∧ g ≠ pb := fun g hg => by have := l1 g hg; simp at this; omega
    have hpl : w1.heap.size ≤ pb := by omega
    rw [← hpe] at hp0 ⊢
    have r2 := r1
    clear r1 l1 y1 x9 hp9 hpe
    generalize hu2 : u1 = u2 at *
    clear hu2
    obtain ⟨z0, z1, z2, z3, z4, z5, z6, g0, g1, g2, g3, g4, g5, g6⟩ := blk7 hp0
    refine wpAnyH_ready (rs := [17]) (by kernel_rfl) (by simp) ?_; refine AllReadyH.cons (o := _) rfl (fun K hK => ?_) AllReadyH.nil
    go_simp
    skip
    refine hK.out _ _ (by (try dsimp only); exact far7 hHeld hne) (fun hHeld => ?_)
    clear hK K
    (try simp only [Act.put, List.setIfInBounds_toArray, List.set_cons_zero, List.set_cons_succ])
    (refine take_on 18 (some 12) (v := ?_) rfl rfl (by kernel_rfl) (by kernel_rfl) (by kernel_rfl) (fun _ _ _ h => h) (by rfl) (by assumption) ?_ ?_; rotate_left; · (intro w hSw; (try dsimp only at hSw); go_simp; (try with_reducible rfl)))
    (try simp only [Act.put, List.setIfInBounds_toArray, List.set_cons_zero, List.set_cons_succ])
    (refine take_on 19 (some 13) (v := ?_) rfl rfl (by kernel_rfl) (by kernel_rfl) (by kernel_rfl) (fun _ _ _ h => h) (by rfl) (by assumption) ?_ ?_; rotate_left; · (intro w hSw; (try dsimp only at hSw); go_simp; (try with_reducible rfl)))
    (try simp only [Act.put, List.setIfInBounds_toArray, List.set_cons_zero, List.set_cons_succ])
    refine wpAnyH_done (by kernel_rfl) ?_ _
    refine NoPanic.normal ?_
    have hp3 := set7 (y0 := .slice A ats.length c) (y1 := .int .i64 pg) (y2 := .bool rw) (y3 := .bool ru) (y4 := .bool rx) (y5 := .bool lg) (y6 := .bool dy) hp0
    have x3 : Chg [] w1 _ := x0.trans (chg7 (y0 := .slice A ats.length c) (y1 := .int .i64 pg) (y2 := .bool rw) (y3 := .bool ru) (y4 := .bool rx) (y5 := .bool lg) (y6 := .bool dy) (g := pb) (Chg.refl [pb] u2) (by simp)) (by intro i hi hm; simp at hm; subst hm; omega)
    have r3 := OwnA.chg r2 (chg7 (y0 := .slice A ats.length c) (y1 := .int .i64 pg) (y2 := .bool rw) (y3 := .bool ru) (y4 := .bool rx) (y5 := .bool lg) (y6 := .bool dy) (g := pb) (Chg.refl [pb] u2) (by simp)) (fun g hg hm => by simp at hm; exact (hlo g hg).2 hm)
    have hpb := hp3.lt
    clear hHeld r2 hp0 x0 z0 z1 z2 z3 z4 z5 z6 g0 g1 g2 g3 g4 g5 g6
    generalize ((((((u2.setCell ⟨pb, 0, none⟩ (.slice A ats.length c)).setCell ⟨pb, 1, none⟩ (.int .i64 pg)).setCell ⟨pb, 2, none⟩ (.bool rw)).setCell ⟨pb, 3, none⟩ (.bool ru)).setCell ⟨pb, 4, none⟩ (.bool rx)).setCell ⟨pb, 5, none⟩ (.bool lg)).setCell ⟨pb, 6, none⟩ (.bool dy) = w3 at *
    have hlo := fun g hg => (hlo g hg).1
    clear hne hWk
    have hr3 := hr1.chg_ x3 (by simp)
    have k3 : Chg [] w w3 := hc1.trans x3 (by simp)
    have H3 := H0.more (G := [w.heap.size, pb]) k3 (by intro i hi; simp at hi; have := hr3.lt; omega)
    clear x3 hc1 hr1 hm1
    have hsl := OwnA.sla r3
    have hap : ∀ g o, A = some ⟨g, o, none⟩ → g ≠ b := fun g o e => by have h1 := hlo g (by rw [e]; simp [Value.ownBlock]); have h2 := H0.lt b (by simp [mB]); omega
    have hmk := fun w9 (k9 : Chg [] w3 w9) => Mark_at q S p L h b n sW A c ⟨ats, pg, ⟨rw, ru, rx⟩, lg, dy⟩ kb w9 (H3.gu.self k9) H3.ok.wd (hsl.self k9) hall hap
    simp only [pathV, HW4.out] at hmk
    go_wp2_with fail
    clear hkb
    refine wp_region_noPanic ?_
    refine wp_region_held_drew (S := (fun w' => Blk w' m 91 #[.pointer (some ⟨t, 0, none⟩), .pointer (some ⟨q, 0, none⟩), .int .i64 sr] ∧ Blk w' pb 108 #[.slice A ats.length c, .int .i64 pg, .bool rw, .bool ru, .bool rx, .bool lg, .bool dy])) (by kernel_rfl) ?_ (fun hHeld => ?_)
    · exact ⟨H3.st.drew, hp3.drew⟩
    (refine take_on 0 (some 38) (v := ?_) rfl rfl (by kernel_rfl) (by kernel_rfl) (by kernel_rfl) (fun _ _ _ h => h) (by rfl) (by assumption) ?_ ?_; rotate_left; · (intro w hSw; (try dsimp only at hSw); obtain ⟨hSm, hSp⟩ := hSw; obtain ⟨c0_, c1_, c2_⟩ := blk3 hSm; obtain ⟨z0_, z1_, z2_, z3_, z4_, z5_, z6_, _, _, _, _, _, _, _⟩ := blk7 hSp; go_simp; (try with_reducible rfl)))
    (try simp only [Act.put, List.setIfInBounds_toArray, List.set_cons_zero, List.set_cons_succ])
    (refine take_on 1 (some 39) (v := ?_) rfl rfl (by kernel_rfl) (by kernel_rfl) (by kernel_rfl) (fun _ _ _ h => h) (by rfl) (by assumption) ?_ ?_; rotate_left; · (intro w hSw; (try dsimp only at hSw); obtain ⟨hSm, hSp⟩ := hSw; obtain ⟨c0_, c1_, c2_⟩ := blk3 hSm; obtain ⟨z0_, z1_, z2_, z3_, z4_, z5_, z6_, _, _, _, _, _, _, _⟩ := blk7 hSp; go_simp; (try with_reducible rfl)))
    (try simp only [Act.put, List.setIfInBounds_toArray, List.set_cons_zero, List.set_cons_succ])
    (refine take_on 2 (some 40) (v := ?_) rfl rfl (by kernel_rfl) (by kernel_rfl) (by kernel_rfl) (fun _ _ _ h => h) (by rfl) (by assumption) ?_ ?_; rotate_left; · (intro w hSw; (try dsimp only at hSw); obtain ⟨hSm, hSp⟩ := hSw; obtain ⟨c0_, c1_, c2_⟩ := blk3 hSm; obtain ⟨z0_, z1_, z2_, z3_, z4_, z5_, z6_, _, _, _, _, _, _, _⟩ := blk7 hSp; go_simp; (try with_reducible rfl)))
    (try simp only [Act.put, List.setIfInBounds_toArray, List.set_cons_zero, List.set_cons_succ])
    (refine take_on 3 (some 41) (v := ?_) rfl rfl (by kernel_rfl) (by kernel_rfl) (by kernel_rfl) (fun _ _ _ h => h) (by rfl) (by assumption) ?_ ?_; rotate_left; · (intro w hSw; (try dsimp only at hSw); obtain ⟨hSm, hSp⟩ := hSw; obtain ⟨c0_, c1_, c2_⟩ := blk3 hSm; obtain ⟨z0_, z1_, z2_, z3_, z4_, z5_, z6_, _, _, _, _, _, _, _⟩ := blk7 hSp; go_simp; (try with_reducible rfl)))
    (try simp only [Act.put, List.setIfInBounds_toArray, List.set_cons_zero, List.set_cons_succ])
    (refine take_on 4 (some 42) (v := ?_) rfl rfl (by kernel_rfl) (by kernel_rfl) (by kernel_rfl) (fun _ _ _ h => h) (by rfl) (by assumption) ?_ ?_; rotate_left; · (intro w hSw; (try dsimp only at hSw); obtain ⟨hSm, hSp⟩ := hSw; obtain ⟨c0_, c1_, c2_⟩ := blk3 hSm; obtain ⟨z0_, z1_, z2_, z3_, z4_, z5_, z6_, _, _, _, _, _, _, _⟩ := blk7 hSp; go_simp; (try with_reducible rfl)))
    (try simp only [Act.put, List.setIfInBounds_toArray, List.set_cons_zero, List.set_cons_succ])
    (refine take_on 5 (some 43) (v := ?_) rfl rfl (by kernel_rfl) (by kernel_rfl) (by kernel_rfl) (fun _ _ _ h => h) (by rfl) (by assumption) ?_ ?_; rotate_left; · (intro w hSw; (try dsimp only at hSw); obtain ⟨hSm, hSp⟩ := hSw; obtain ⟨c0_, c1_, c2_⟩ := blk3 hSm; obtain ⟨z0_, z1_, z2_, z3_, z4_, z5_, z6_, _, _, _, _, _, _, _⟩ := blk7 hSp; go_simp; (try with_reducible rfl)))
    (try simp only [Act.put, List.setIfInBounds_toArray, List.set_cons_zero, List.set_cons_succ])
    refine wpAnyH_ready (rs := [6]) (by kernel_rfl) (by simp) ?_; refine AllReadyH.cons (o := _) rfl (fun K hK => ?_) AllReadyH.nil
    go_simp
    (go_at_call 116; refine (hmk _ ((Chg.refl [] w3).drew)).mono ?_; rintro e w4 ⟨rfl, y4, g4_⟩)
    refine hK.out _ _ (by (try dsimp only); exact ⟨y4.blk hHeld.1 (by simpa using H3.bm), y4.blk hHeld.2 (by have := H3.ap b (by simp [mB]); simp at this ⊢; exact fun e => this.2.1 e.symm)⟩) (fun hHeld => ?_)
    clear hK K
    (try simp only [Act.put, List.setIfInBounds_toArray, List.set_cons_zero, List.set_cons_succ])
    refine wpAnyH_done (by kernel_rfl) ?_ _
    refine NoPanic.normal ?_
    obtain ⟨H4, f4⟩ := (H3.new ((Chg.refl [] w3).drew)).setW y4 g4_ (HW4.out ▸ H3.ok.mark ats kb)
    have f4 := (Far.of_new ((Chg.refl [] w3).drew)).trans f4
    have hr4 := f4.blk hr3 (by simp)
    have hp4 := f4.blk hp3 (by simp)
    clear hHeld hmk hsl hap g4_ y4 hr3 hp3 r3
    have hle := fun w9 (k9 : Chg [] w4 w9) => PLearn_b page A c ⟨ats, pg, ⟨rw, ru, rx⟩, lg, dy⟩ kb (H4.new k9).tb
    simp only [pathV, Ht.v, HE5.out, HT4.out] at hle
    go_wp2_with fail
    refine wp_region_noPanic ?_
    refine wp_region_held_drew (S := (fun w' => Blk w' m 91 #[.pointer (some ⟨t, 0, none⟩), .pointer (some ⟨q, 0, none⟩), .int .i64 sr] ∧ Blk w' pb 108 #[.slice A ats.length c, .int .i64 pg, .bool rw, .bool ru, .bool rx, .bool lg, .bool dy])) (by kernel_rfl) ?_ (fun hHeld => ?_)
    · exact ⟨H4.st.drew, hp4.drew⟩
    (refine take_on 0 (some 45) (v := ?_) rfl rfl (by kernel_rfl) (by kernel_rfl) (by kernel_rfl) (fun _ _ _ h => h) (by rfl) (by assumption) ?_ ?_; rotate_left; · (intro w hSw; (try dsimp only at hSw); obtain ⟨hSm, hSp⟩ := hSw; obtain ⟨c0_, c1_, c2_⟩ := blk3 hSm; obtain ⟨z0_, z1_, z2_, z3_, z4_, z5_, z6_, _, _, _, _, _, _, _⟩ := blk7 hSp; go_simp; (try with_reducible rfl)))
    (try simp only [Act.put, List.setIfInBounds_toArray, List.set_cons_zero, List.set_cons_succ])
    (refine take_on 1 (some 46) (v := ?_) rfl rfl (by kernel_rfl) (by kernel_rfl) (by kernel_rfl) (fun _ _ _ h => h) (by rfl) (by assumption) ?_ ?_; rotate_left; · (intro w hSw; (try dsimp only at hSw); obtain ⟨hSm, hSp⟩ := hSw; obtain ⟨c0_, c1_, c2_⟩ := blk3 hSm; obtain ⟨z0_, z1_, z2_, z3_, z4_, z5_, z6_, _, _, _, _, _, _, _⟩ := blk7 hSp; go_simp; (try with_reducible rfl)))
    (try simp only [Act.put, List.setIfInBounds_toArray, List.set_cons_zero, List.set_cons_succ])
    (refine take_on 2 (some 47) (v := ?_) rfl rfl (by kernel_rfl) (by kernel_rfl) (by kernel_rfl) (fun _ _ _ h => h) (by rfl) (by assumption) ?_ ?_; rotate_left; · (intro w hSw; (try dsimp only at hSw); obtain ⟨hSm, hSp⟩ := hSw; obtain ⟨c0_, c1_, c2_⟩ := blk3 hSm; obtain ⟨z0_, z1_, z2_, z3_, z4_, z5_, z6_, _, _, _, _, _, _, _⟩ := blk7 hSp; go_simp; (try with_reducible rfl)))
    (try simp only [Act.put, List.setIfInBounds_toArray, List.set_cons_zero, List.set_cons_succ])
    (refine take_on 3 (some 48) (v := ?_) rfl rfl (by kernel_rfl) (by kernel_rfl) (by kernel_rfl) (fun _ _ _ h => h) (by rfl) (by assumption) ?_ ?_; rotate_left; · (intro w hSw; (try dsimp only at hSw); obtain ⟨hSm, hSp⟩ := hSw; obtain ⟨c0_, c1_, c2_⟩ := blk3 hSm; obtain ⟨z0_, z1_, z2_, z3_, z4_, z5_, z6_, _, _, _, _, _, _, _⟩ := blk7 hSp; go_simp; (try with_reducible rfl)))
    (try simp only [Act.put, List.setIfInBounds_toArray, List.set_cons_zero, List.set_cons_succ])
    (refine take_on 4 (some 49) (v := ?_) rfl rfl (by kernel_rfl) (by kernel_rfl) (by kernel_rfl) (fun _ _ _ h => h) (by rfl) (by assumption) ?_ ?_; rotate_left; · (intro w hSw; (try dsimp only at hSw); obtain ⟨hSm, hSp⟩ := hSw; obtain ⟨c0_, c1_, c2_⟩ := blk3 hSm; obtain ⟨z0_, z1_, z2_, z3_, z4_, z5_, z6_, _, _, _, _, _, _, _⟩ := blk7 hSp; go_simp; (try with_reducible rfl)))
    (try simp only [Act.put, List.setIfInBounds_toArray, List.set_cons_zero, List.set_cons_succ])
    (refine take_on 5 (some 50) (v := ?_) rfl rfl (by kernel_rfl) (by kernel_rfl) (by kernel_rfl) (fun _ _ _ h => h) (by rfl) (by assumption) ?_ ?_; rotate_left; · (intro w hSw; (try dsimp only at hSw); obtain ⟨hSm, hSp⟩ := hSw; obtain ⟨c0_, c1_, c2_⟩ := blk3 hSm; obtain ⟨z0_, z1_, z2_, z3_, z4_, z5_, z6_, _, _, _, _, _, _, _⟩ := blk7 hSp; go_simp; (try with_reducible rfl)))
    (try simp only [Act.put, List.setIfInBounds_toArray, List.set_cons_zero, List.set_cons_succ])
    (refine take_on 6 (some 51) (v := ?_) rfl rfl (by kernel_rfl) (by kernel_rfl) (by kernel_rfl) (fun _ _ _ h => h) (by rfl) (by assumption) ?_ ?_; rotate_left; · (intro w hSw; (try dsimp only at hSw); obtain ⟨hSm, hSp⟩ := hSw; obtain ⟨c0_, c1_, c2_⟩ := blk3 hSm; obtain ⟨z0_, z1_, z2_, z3_, z4_, z5_, z6_, _, _, _, _, _, _, _⟩ := blk7 hSp; go_simp; (try with_reducible rfl)))
    (try simp only [Act.put, List.setIfInBounds_toArray, List.set_cons_zero, List.set_cons_succ])
    refine wpAnyH_ready (rs := [7]) (by kernel_rfl) (by simp) ?_; refine AllReadyH.cons (o := _) rfl (fun K hK => ?_) AllReadyH.nil
    go_simp
    (go_at_call 79; refine (hle _ ((Chg.refl [] w4).drew)).mono ?_; rintro e w5 ⟨rfl, h5, f5⟩; have hr5 := f5.blk hr4.drew (by simp); obtain ⟨z0, z1, z2, z3, z4, z5, z6, g0, g1, g2, g3, g4, g5, g6⟩ := blk7 hr5)
    refine hK.out _ _ (by (try dsimp only); exact ⟨f5.blk hHeld.1 (by simp [mB]), f5.blk hHeld.2 (by simp)⟩) (fun hHeld => ?_)
    clear hK K
    (try simp only [Act.put, List.setIfInBounds_toArray, List.set_cons_zero, List.set_cons_succ])
    refine wpAnyH_ready (rs := [8]) (by kernel_rfl) (by simp) ?_; refine AllReadyH.cons (o := _) rfl (fun K hK => ?_) AllReadyH.nil
    go_simp
    skip
    refine hK.out _ _ (by (try dsimp only); exact ⟨far7 hHeld.1 (by have h1 := H0.lt m (by simp [mB]); omega), far7 hHeld.2 (by omega)⟩) (fun hHeld => ?_)
    clear hK K
    (try simp only [Act.put, List.setIfInBounds_toArray, List.set_cons_zero, List.set_cons_succ])
    (refine take_on 9 (some 9) (v := ?_) rfl rfl (by kernel_rfl) (by kernel_rfl) (by kernel_rfl) (fun _ _ _ h => h) (by rfl) (by assumption) ?_ ?_; rotate_left; · (intro w hSw; (try dsimp only at hSw); go_simp; (try with_reducible rfl)))
    (try simp only [Act.put, List.setIfInBounds_toArray, List.set_cons_zero, List.set_cons_succ])
    (refine take_on 10 (some 10) (v := ?_) rfl rfl (by kernel_rfl) (by kernel_rfl) (by kernel_rfl) (fun _ _ _ h => h) (by rfl) (by assumption) ?_ ?_; rotate_left; · (intro w hSw; (try dsimp only at hSw); go_simp; (try with_reducible rfl)))
    (try simp only [Act.put, List.setIfInBounds_toArray, List.set_cons_zero, List.set_cons_succ])
    refine wpAnyH_done (by kernel_rfl) ?_ _
    refine NoPanic.normal ?_
    have H5 := (H4.new ((Chg.refl [] w4).drew)).setT h5 f5 (H4.ok.put (x := ⟨0, page, pg, rw, ru, rx, dk⟩) ⟨rfl, path_g0 hgl.1, hgl.2.2⟩ |> fun hh => HT4.out ▸ hh)
    go_wp2_with fail
    refine bodyPost_ret (cell_tmps_ret rfl (set7 hr5) rfl Tryz.underlying62 rfl (by kernel_rfl)) rfl ?_
    have hk3 := chg7 (y0 := .int .i64 0) (y1 := .int .i64 page) (y2 := .int .i64 pg) (y3 := .bool rw) (y4 := .bool ru) (y5 := .bool rx) (y6 := .bool dk) (g := w.heap.size) (Chg.refl [w.heap.size] w5) (by simp)
    exact ⟨rfl, (H5.less (G := w.heap.size :: F) (fun i hi => by simp at hi ⊢; rcases hi with h | h <;> simp [h])).own hk3 hs0, (Far.of_new k3).trans ((f4.less (fun i hi => by simp [hi])).trans ((Far.of_new ((Chg.refl [] w4).drew)).trans ((f5.less (fun i hi => by simp [hi])).trans ⟨_, hk3, by simp; exact fun hm => by have := hFw _ hm; omega⟩)))⟩

end

end Go.Proofs.YtgebfagiomcmbaaGreatDoor

namespace Go.Proofs.YtgebfagiomcmbaaGreatDoor
open Go.RowKit Go.Shelf

section
variable {w0 w : World} {F : List Nat} {m t q p h b n : Nat} {S : List Nat} {L : List Int} {s : Ms}
set_option maxRecDepth 100000 in
set_option maxHeartbeats 8000000 in
theorem find_known (page : Int) (H : ModB w0 F w m t q S p L h b n s) (hu : hasT s.T 0 page = true) :
    Calls Tryz.prog 31 #[.pointer (some ⟨m, 0, none⟩), .int .i64 page] w fun e w' => e = .returned (.bool false) ∧ ModB w0 F w' m t q S p L h b n s ∧ Far F w w' := by
  obtain ⟨c0, c1, c2⟩ := H.c
  have hP := POf_b page H.tb
  rw [hu] at hP
  clear hu
  generalize getT s.T 0 page = x at hP
  obtain ⟨xa, xp, xf, xw, xu, xx, xd⟩ := x
  simp only [Ht.v] at hP
  have H0 := H
  obtain ⟨sW, sr, sT⟩ := s
  simp only at *
  clear H
  go_enter Tryz.func31, Tryz.ntmps31
  go_wp2_with fail
  refine hP.mono ?_; rintro e u0 ⟨rfl, _, k0⟩
  have k1 : Chg [] w (u0.alloc (.cells #[.int .i64 xa, .int .i64 xp, .int .i64 xf, .bool xw, .bool xu, .bool xx, .bool xd] 62)) := k0.alloc _
  go_wp2_with fail
  go_ret
  exact ⟨rfl, H0.new k1, Far.of_new k1⟩

set_option maxRecDepth 100000 in
set_option maxHeartbeats 8000000 in
theorem find_stop (page : Int) (H : ModB w0 F w m t q S p L h b n s) (how code : Int) (hu : hasT s.T 0 page = false) (hr : walkP n s.W L s.r page 0 false = (Pa.zero, how, code)) (hne0 : (how == 0) = false) :
    Calls Tryz.prog 31 #[.pointer (some ⟨m, 0, none⟩), .int .i64 page] w fun e w' => e = .returned (.bool false) ∧ ModB w0 F w' m t q S p L h b n s ∧ Far F w w' := by
  obtain ⟨c0, c1, c2⟩ := H.c
  have hP := POf_b page H.tb
  rw [hu] at hP
  clear hu
  generalize getT s.T 0 page = x at hP
  obtain ⟨xa, xp, xf, xw, xu, xx, xd⟩ := x
  simp only [Ht.v] at hP
  have H0 := H
  have hWk0 := fun w9 (k9 : Chg [] w w9) => (H.new k9).walk page 0 false Pa.zero how code hr
  rw [show Pa.zero = ⟨[], 0, ⟨false, false, false⟩, false, false⟩ from rfl] at *
  simp only [pathV, List.length_nil] at *
  clear hr
  obtain ⟨sW, sr, sT⟩ := s
  simp only at *
  clear H
  go_enter Tryz.func31, Tryz.ntmps31
  go_wp2_with fail
  refine hP.mono ?_; rintro e u0 ⟨rfl, _, k0⟩
  have k1 : Chg [] w (u0.alloc (.cells #[.int .i64 xa, .int .i64 xp, .int .i64 xf, .bool xw, .bool xu, .bool xx, .bool xd] 62)) := k0.alloc _
  go_wp2_with fail
  generalize u0.alloc (.cells #[.int .i64 xa, .int .i64 xp, .int .i64 xf, .bool xw, .bool xu, .bool xx, .bool xd] 62) = w1 at *
  have hm1 := k1.blk H0.st (by simp)
  have hWk := hWk0 w1 k1
  clear hWk0 hP k0 c0 c1 c2
  refine wp_region_noPanic ?_
  refine wp_region_held_drew (S := (fun w' => Blk w' m 91 #[.pointer (some ⟨t, 0, none⟩), .pointer (some ⟨q, 0, none⟩), .int .i64 sr])) (by kernel_rfl) ?_ (fun hHeld => ?_)
  · exact hm1.drew
  (refine take_on 0 (some 21) (v := ?_) rfl rfl (by kernel_rfl) (by kernel_rfl) (by kernel_rfl) (fun _ _ _ h => h) (by rfl) (by assumption) ?_ ?_; rotate_left; · (intro w hSw; (try dsimp only at hSw); obtain ⟨c0_, c1_, c2_⟩ := blk3 hSw; go_simp; (try with_reducible rfl)))
  (try simp only [Act.put, List.setIfInBounds_toArray, List.set_cons_zero, List.set_cons_succ])
  (refine take_on 1 (some 22) (v := ?_) rfl rfl (by kernel_rfl) (by kernel_rfl) (by kernel_rfl) (fun _ _ _ h => h) (by rfl) (by assumption) ?_ ?_; rotate_left; · (intro w hSw; (try dsimp only at hSw); obtain ⟨c0_, c1_, c2_⟩ := blk3 hSw; go_simp; (try with_reducible rfl)))
  (try simp only [Act.put, List.setIfInBounds_toArray, List.set_cons_zero, List.set_cons_succ])
  (refine take_on 2 (some 23) (v := ?_) rfl rfl (by kernel_rfl) (by kernel_rfl) (by kernel_rfl) (fun _ _ _ h => h) (by rfl) (by assumption) ?_ ?_; rotate_left; · (intro w hSw; (try dsimp only at hSw); obtain ⟨c0_, c1_, c2_⟩ := blk3 hSw; go_simp; (try with_reducible rfl)))
  (try simp only [Act.put, List.setIfInBounds_toArray, List.set_cons_zero, List.set_cons_succ])
  (refine take_on 3 (some 24) (v := ?_) rfl rfl (by kernel_rfl) (by kernel_rfl) (by kernel_rfl) (fun _ _ _ h => h) (by rfl) (by assumption) ?_ ?_; rotate_left; · (intro w hSw; (try dsimp only at hSw); obtain ⟨c0_, c1_, c2_⟩ := blk3 hSw; go_simp; (try with_reducible rfl)))
  (try simp only [Act.put, List.setIfInBounds_toArray, List.set_cons_zero, List.set_cons_succ])
  (refine take_on 4 (some 25) (v := ?_) rfl rfl (by kernel_rfl) (by kernel_rfl) (by kernel_rfl) (fun _ _ _ h => h) (by rfl) (by assumption) ?_ ?_; rotate_left; · (intro w hSw; (try dsimp only at hSw); obtain ⟨c0_, c1_, c2_⟩ := blk3 hSw; go_simp; (try with_reducible rfl)))
  (try simp only [Act.put, List.setIfInBounds_toArray, List.set_cons_zero, List.set_cons_succ])
  (refine take_on 5 (some 26) (v := ?_) rfl rfl (by kernel_rfl) (by kernel_rfl) (by kernel_rfl) (fun _ _ _ h => h) (by rfl) (by assumption) ?_ ?_; rotate_left; · (intro w hSw; (try dsimp only at hSw); obtain ⟨c0_, c1_, c2_⟩ := blk3 hSw; go_simp; (try with_reducible rfl)))
  (try simp only [Act.put, List.setIfInBounds_toArray, List.set_cons_zero, List.set_cons_succ])
  (refine take_on 6 (some 27) (v := ?_) rfl rfl (by kernel_rfl) (by kernel_rfl) (by kernel_rfl) (fun _ _ _ h => h) (by rfl) (by assumption) ?_ ?_; rotate_left; · (intro w hSw; (try dsimp only at hSw); obtain ⟨c0_, c1_, c2_⟩ := blk3 hSw; go_simp; (try with_reducible rfl)))
  (try simp only [Act.put, List.setIfInBounds_toArray, List.set_cons_zero, List.set_cons_succ])
  (refine take_on 7 (some 28) (v := ?_) rfl rfl (by kernel_rfl) (by kernel_rfl) (by kernel_rfl) (fun _ _ _ h => h) (by rfl) (by assumption) ?_ ?_; rotate_left; · (intro w hSw; (try dsimp only at hSw); obtain ⟨c0_, c1_, c2_⟩ := blk3 hSw; go_simp; (try with_reducible rfl)))
  (try simp only [Act.put, List.setIfInBounds_toArray, List.set_cons_zero, List.set_cons_succ])
  (refine take_on 8 (some 29) (v := ?_) rfl rfl (by kernel_rfl) (by kernel_rfl) (by kernel_rfl) (fun _ _ _ h => h) (by rfl) (by assumption) ?_ ?_; rotate_left; · (intro w hSw; (try dsimp only at hSw); obtain ⟨c0_, c1_, c2_⟩ := blk3 hSw; go_simp; (try with_reducible rfl)))
  (try simp only [Act.put, List.setIfInBounds_toArray, List.set_cons_zero, List.set_cons_succ])
  refine wpAnyH_ready (rs := [9, 14]) (by kernel_rfl) (by simp) ?_; refine AllReadyH.cons (o := _) rfl (fun K hK => ?_) (AllReadyH.cons (o := _) rfl (fun K hK => ?_) AllReadyH.nil)
  · go_simp
    (go_at_call 77; refine (hWk _ ((Chg.refl [] w1).drew)).mono ?_; rintro e u1 ⟨A, c, rfl, r1, l1, y1⟩; simp only at *)
    refine hK.out _ _ (by (try dsimp only); exact hHeld.chg_ y1 (by simp)) (fun hHeld => ?_)
    clear hK K
    (try simp only [Act.put, List.setIfInBounds_toArray, List.set_cons_zero, List.set_cons_succ])
    (refine take_on 10 (some 20) (v := ?_) rfl rfl (by kernel_rfl) (by kernel_rfl) (by kernel_rfl) (fun _ _ _ h => h) (by rfl) (by assumption) ?_ ?_; rotate_left; · (intro w hSw; (try dsimp only at hSw); go_simp; (try with_reducible rfl)))
    (try simp only [Act.put, List.setIfInBounds_toArray, List.set_cons_zero, List.set_cons_succ])
    (refine take_on 11 (some 31) (v := ?_) rfl rfl (by kernel_rfl) (by kernel_rfl) (by kernel_rfl) (fun _ _ _ h => h) (by rfl) (by assumption) ?_ ?_; rotate_left; · (intro w hSw; (try dsimp only at hSw); go_simp; (try with_reducible rfl)))
    (try simp only [Act.put, List.setIfInBounds_toArray, List.set_cons_zero, List.set_cons_succ])
    (refine take_on 12 (some 32) (v := ?_) rfl rfl (by kernel_rfl) (by kernel_rfl) (by kernel_rfl) (fun _ _ _ h => h) (by rfl) (by assumption) ?_ ?_; rotate_left; · (intro w hSw; (try dsimp only at hSw); go_simp; (try with_reducible rfl)))
    (try simp only [Act.put, List.setIfInBounds_toArray, List.set_cons_zero, List.set_cons_succ])
    (refine take_on 13 (some 33) (v := ?_) rfl rfl (by kernel_rfl) (by kernel_rfl) (by kernel_rfl) (fun _ _ _ h => h) (by rfl) (by assumption) ?_ ?_; rotate_left; · (intro w hSw; (try dsimp only at hSw); go_simp; (try with_reducible rfl)))
    (try simp only [Act.put, List.setIfInBounds_toArray, List.set_cons_zero, List.set_cons_succ])
    refine wpAnyH_ready (rs := [14]) (by kernel_rfl) (by simp) ?_; refine AllReadyH.cons (o := _) rfl (fun K hK => ?_) AllReadyH.nil
    go_simp
    skip
    refine hK.out _ _ (by (try dsimp only); exact Blk.alloc hHeld _) (fun hHeld => ?_)
    clear hK K
    (try simp only [Act.put, List.setIfInBounds_toArray, List.set_cons_zero, List.set_cons_succ])
    have x0 : Chg [] w1 (u1.alloc (.cells #[.slice none 0 0, .int .i64 0, .bool false, .bool false, .bool false, .bool false, .bool false] 108)) := (((Chg.refl [] w1).drew).trans y1 (by simp)).alloc _
    have hp0 := Blk.new u1 108 #[.slice none 0 0, .int .i64 0, .bool false, .bool false, .bool false, .bool false, .bool false]
    have hne : m ≠ u1.heap.size := by have h1 := hm1.lt; have h2 := x0.size; have h3 := y1.size; simp at h2 h3; omega
    have hlo : ∀ g ∈ (Value.slice A 0 c).ownBlock.toList, w1.heap.size ≤ g ∧ g ≠ u1.heap.size := fun g hg => ⟨by simpa using l1 g hg, by have := OwnA.lt r1 g hg; omega⟩
    have r2 := OwnA.self r1 ((Chg.refl [] u1).alloc (.cells #[.slice none 0 0, .int .i64 0, .bool false, .bool false, .bool false, .bool false, .bool false] 108))
    have hpl : w1.heap.size ≤ u1.heap.size := by simpa using y1.size
    clear r1 l1 y1
    generalize hu2 : u1.alloc (.cells #[.slice none 0 0, .int .i64 0, .bool false, .bool false, .bool false, .bool false, .bool false] 108) = u2 at *
    generalize u1.heap.size = pb at *
    clear hu2
    obtain ⟨z0, z1, z2, z3, z4, z5, z6, g0, g1, g2, g3, g4, g5, g6⟩ := blk7 hp0
    refine wpAnyH_ready (rs := [15]) (by kernel_rfl) (by simp) ?_; refine AllReadyH.cons (o := _) rfl (fun K hK => ?_) AllReadyH.nil
    go_simp
    skip
    refine hK.out _ _ (by (try dsimp only); exact far7 hHeld hne) (fun hHeld => ?_)
    clear hK K
    (try simp only [Act.put, List.setIfInBounds_toArray, List.set_cons_zero, List.set_cons_succ])
    (refine take_on 16 (some 8) (v := ?_) rfl rfl (by kernel_rfl) (by kernel_rfl) (by kernel_rfl) (fun _ _ _ h => h) (by rfl) (by assumption) ?_ ?_; rotate_left; · (intro w hSw; (try dsimp only at hSw); go_simp; (try with_reducible rfl)))
    (try simp only [Act.put, List.setIfInBounds_toArray, List.set_cons_zero, List.set_cons_succ])
    (refine take_on 17 (some 9) (v := ?_) rfl rfl (by kernel_rfl) (by kernel_rfl) (by kernel_rfl) (fun _ _ _ h => h) (by rfl) (by assumption) ?_ ?_; rotate_left; · (intro w hSw; (try dsimp only at hSw); go_simp; (try with_reducible rfl)))
    (try simp only [Act.put, List.setIfInBounds_toArray, List.set_cons_zero, List.set_cons_succ])
    refine wpAnyH_done (by kernel_rfl) ?_ _
    refine NoPanic.normal ?_
    have hp3 := set7 (y0 := .slice A 0 c) (y1 := .int .i64 0) (y2 := .bool false) (y3 := .bool false) (y4 := .bool false) (y5 := .bool false) (y6 := .bool false) hp0
    have x3 : Chg [] w1 _ := x0.trans (chg7 (y0 := .slice A 0 c) (y1 := .int .i64 0) (y2 := .bool false) (y3 := .bool false) (y4 := .bool false) (y5 := .bool false) (y6 := .bool false) (g := pb) (Chg.refl [pb] u2) (by simp)) (by intro i hi hm; simp at hm; subst hm; omega)
    have r3 := OwnA.chg r2 (chg7 (y0 := .slice A 0 c) (y1 := .int .i64 0) (y2 := .bool false) (y3 := .bool false) (y4 := .bool false) (y5 := .bool false) (y6 := .bool false) (g := pb) (Chg.refl [pb] u2) (by simp)) (fun g hg hm => by simp at hm; exact (hlo g hg).2 hm)
    have hpb := hp3.lt
    clear hHeld r2 hp0 x0 z0 z1 z2 z3 z4 z5 z6 g0 g1 g2 g3 g4 g5 g6
    generalize ((((((u2.setCell ⟨pb, 0, none⟩ (.slice A 0 c)).setCell ⟨pb, 1, none⟩ (.int .i64 0)).setCell ⟨pb, 2, none⟩ (.bool false)).setCell ⟨pb, 3, none⟩ (.bool false)).setCell ⟨pb, 4, none⟩ (.bool false)).setCell ⟨pb, 5, none⟩ (.bool false)).setCell ⟨pb, 6, none⟩ (.bool false) = w3 at *
    have hlo := fun g hg => (hlo g hg).1
    clear hne hWk
    have k3 : Chg [] w w3 := k1.trans x3 (by simp)
    have H3 := H0.more (G := [pb]) k3 (by intro i hi; simp at hi; subst hi; exact ⟨Nat.le_trans k1.size hpl, hpb⟩)
    clear x3 hm1
    have hne1 : (how != 0) = true := by simpa [bne] using hne0
    go_wp2_with fail
    refine wp_region_cls (by kernel_rfl) (by kernel_rfl) ?_
    repeat (go_big_quiet_step (fail))
    refine wpQuiet_nil ?_
    rintro _ ⟨n5, rfl⟩
    have k5 := k3.trans n5.ok (by simp)
    have H5 := H3.new n5.ok
    have hp5 := n5.blk hp3
    go_wp2_with fail
    go_ret
    exact ⟨rfl, H5.less (fun i hi => by simp [hi]), Far.of_new k5⟩
  · go_simp
    skip
    refine hK.out _ _ (by (try dsimp only); exact Blk.alloc hHeld _) (fun hHeld => ?_)
    clear hK K
    (try simp only [Act.put, List.setIfInBounds_toArray, List.set_cons_zero, List.set_cons_succ])
    have x9 : Chg [] w1 (w1.drew.alloc (.cells #[.slice none 0 0, .int .i64 0, .bool false, .bool false, .bool false, .bool false, .bool false] 108)) := ((Chg.refl [] w1).drew).alloc _
    have hp9 : Blk (w1.drew.alloc (.cells #[.slice none 0 0, .int .i64 0, .bool false, .bool false, .bool false, .bool false, .bool false] 108)) w1.heap.size 108 #[.slice none 0 0, .int .i64 0, .bool false, .bool false, .bool false, .bool false, .bool false] := Blk.new w1.drew _ _
    refine wpAnyH_ready (rs := [9]) (by kernel_rfl) (by simp) ?_; refine AllReadyH.cons (o := _) rfl (fun K hK => ?_) AllReadyH.nil
    go_simp
    (go_at_call 77; refine (hWk _ x9).mono ?_; rintro e u1 ⟨A, c, rfl, r1, l1, y1⟩; simp only at *)
    refine hK.out _ _ (by (try dsimp only); exact hHeld.chg_ y1 (by simp)) (fun hHeld => ?_)
    clear hK K
    (try simp only [Act.put, List.setIfInBounds_toArray, List.set_cons_zero, List.set_cons_succ])
    (refine take_on 10 (some 20) (v := ?_) rfl rfl (by kernel_rfl) (by kernel_rfl) (by kernel_rfl) (fun _ _ _ h => h) (by rfl) (by assumption) ?_ ?_; rotate_left; · (intro w hSw; (try dsimp only at hSw); go_simp; (try with_reducible rfl)))
    (try simp only [Act.put, List.setIfInBounds_toArray, List.set_cons_zero, List.set_cons_succ])
    (refine take_on 11 (some 31) (v := ?_) rfl rfl (by kernel_rfl) (by kernel_rfl) (by kernel_rfl) (fun _ _ _ h => h) (by rfl) (by assumption) ?_ ?_; rotate_left; · (intro w hSw; (try dsimp only at hSw); go_simp; (try with_reducible rfl)))
    (try simp only [Act.put, List.setIfInBounds_toArray, List.set_cons_zero, List.set_cons_succ])
    (refine take_on 12 (some 32) (v := ?_) rfl rfl (by kernel_rfl) (by kernel_rfl) (by kernel_rfl) (fun _ _ _ h => h) (by rfl) (by assumption) ?_ ?_; rotate_left; · (intro w hSw; (try dsimp only at hSw); go_simp; (try with_reducible rfl)))
    (try simp only [Act.put, List.setIfInBounds_toArray, List.set_cons_zero, List.set_cons_succ])
    (refine take_on 13 (some 33) (v := ?_) rfl rfl (by kernel_rfl) (by kernel_rfl) (by kernel_rfl) (fun _ _ _ h => h) (by rfl) (by assumption) ?_ ?_; rotate_left; · (intro w hSw; (try dsimp only at hSw); go_simp; (try with_reducible rfl)))
    (try simp only [Act.put, List.setIfInBounds_toArray, List.set_cons_zero, List.set_cons_succ])
    have x0 : Chg [] w1 u1 := x9.trans y1 (by simp)
    have hp0 := hp9.chg_ y1 (by simp)
    obtain ⟨pb, hpe⟩ : ∃ pb, pb = w1.heap.size := ⟨_, rfl⟩
    have hne : m ≠ pb := by have h1 := hm1.lt; omega
    have hlo : ∀ g ∈ (Value.slice A 0 c).ownBlock.toList, w1.heap.size ≤ g ∧ g ≠ pb := fun g hg => by have := l1 g hg; simp at this; omega
    have hpl : w1.heap.size ≤ pb := by omega
    rw [← hpe] at hp0 ⊢
    have r2 := r1
    clear r1 l1 y1 x9 hp9 hpe
    generalize hu2 : u1 = u2 at *
    clear hu2
    obtain ⟨z0, z1, z2, z3, z4, z5, z6, g0, g1, g2, g3, g4, g5, g6⟩ := blk7 hp0
    refine wpAnyH_ready (rs := [15]) (by kernel_rfl) (by simp) ?_; refine AllReadyH.cons (o := _) rfl (fun K hK => ?_) AllReadyH.nil
    go_simp
    skip
    refine hK.out _ _ (by (try dsimp only); exact far7 hHeld hne) (fun hHeld => ?_)
    clear hK K
    (try simp only [Act.put, List.setIfInBounds_toArray, List.set_cons_zero, List.set_cons_succ])
    (refine take_on 16 (some 8) (v := ?_) rfl rfl (by kernel_rfl) (by kernel_rfl) (by kernel_rfl) (fun _ _ _ h => h) (by rfl) (by assumption) ?_ ?_; rotate_left; · (intro w hSw; (try dsimp only at hSw); go_simp; (try with_reducible rfl)))
    (try simp only [Act.put, List.setIfInBounds_toArray, List.set_cons_zero, List.set_cons_succ])
    (refine take_on 17 (some 9) (v := ?_) rfl rfl (by kernel_rfl) (by kernel_rfl) (by kernel_rfl) (fun _ _ _ h => h) (by rfl) (by assumption) ?_ ?_; rotate_left; · (intro w hSw; (try dsimp only at hSw); go_simp; (try with_reducible rfl)))
    (try simp only [Act.put, List.setIfInBounds_toArray, List.set_cons_zero, List.set_cons_succ])
    refine wpAnyH_done (by kernel_rfl) ?_ _
    refine NoPanic.normal ?_
    have hp3 := set7 (y0 := .slice A 0 c) (y1 := .int .i64 0) (y2 := .bool false) (y3 := .bool false) (y4 := .bool false) (y5 := .bool false) (y6 := .bool false) hp0
    have x3 : Chg [] w1 _ := x0.trans (chg7 (y0 := .slice A 0 c) (y1 := .int .i64 0) (y2 := .bool false) (y3 := .bool false) (y4 := .bool false) (y5 := .bool false) (y6 := .bool false) (g := pb) (Chg.refl [pb] u2) (by simp)) (by intro i hi hm; simp at hm; subst hm; omega)
    have r3 := OwnA.chg r2 (chg7 (y0 := .slice A 0 c) (y1 := .int .i64 0) (y2 := .bool false) (y3 := .bool false) (y4 := .bool false) (y5 := .bool false) (y6 := .bool false) (g := pb) (Chg.refl [pb] u2) (by simp)) (fun g hg hm => by simp at hm; exact (hlo g hg).2 hm)
    have hpb := hp3.lt
    clear hHeld r2 hp0 x0 z0 z1 z2 z3 z4 z5 z6 g0 g1 g2 g3 g4 g5 g6
    generalize ((((((u2.setCell ⟨pb, 0, none⟩ (.slice A 0 c)).setCell ⟨pb, 1, none⟩ (.int .i64 0)).setCell ⟨pb, 2, none⟩ (.bool false)).setCell ⟨pb, 3, none⟩ (.bool false)).setCell ⟨pb, 4, none⟩ (.bool false)).setCell ⟨pb, 5, none⟩ (.bool false)).setCell ⟨pb, 6, none⟩ (.bool false) = w3 at *
    have hlo := fun g hg => (hlo g hg).1
    clear hne hWk
    have k3 : Chg [] w w3 := k1.trans x3 (by simp)
    have H3 := H0.more (G := [pb]) k3 (by intro i hi; simp at hi; subst hi; exact ⟨Nat.le_trans k1.size hpl, hpb⟩)
    clear x3 hm1
    have hne1 : (how != 0) = true := by simpa [bne] using hne0
    go_wp2_with fail
    refine wp_region_cls (by kernel_rfl) (by kernel_rfl) ?_
    repeat (go_big_quiet_step (fail))
    refine wpQuiet_nil ?_
    rintro _ ⟨n5, rfl⟩
    have k5 := k3.trans n5.ok (by simp)
    have H5 := H3.new n5.ok
    have hp5 := n5.blk hp3
    go_wp2_with fail
    go_ret
    exact ⟨rfl, H5.less (fun i hi => by simp [hi]), Far.of_new k5⟩

set_option maxRecDepth 100000 in
set_option maxHeartbeats 8000000 in
theorem find_bare (page : Int) (H : ModB w0 F w m t q S p L h b n s) (P : Pa) (hu : hasT s.T 0 page = false) (hr : walkP n s.W L s.r page 0 false = (P, 0, 0)) (hus : usedAts n s.W L P.ats = false) :
    Calls Tryz.prog 31 #[.pointer (some ⟨m, 0, none⟩), .int .i64 page] w fun e w' => e = .returned (.bool false) ∧ ModB w0 F w' m t q S p L h b n s ∧ Far F w w' := by
  obtain ⟨c0, c1, c2⟩ := H.c
  have hP := POf_b page H.tb
  rw [hu] at hP
  clear hu
  generalize getT s.T 0 page = x at hP
  obtain ⟨xa, xp, xf, xw, xu, xx, xd⟩ := x
  simp only [Ht.v] at hP
  have H0 := H
  have hWk0 := fun w9 (k9 : Chg [] w w9) => (H.new k9).walk page 0 false P 0 0 hr
  have hlen := walk_len hr
  have hall : P.ats.length ≤ 9223372036854775807 := by omega
  have hgl := (done_of hr).2
  obtain ⟨ats, pg, ⟨rw, ru, rx⟩, lg, dy⟩ := P
  simp only [pathV] at *
  clear hr
  obtain ⟨sW, sr, sT⟩ := s
  simp only at *
  clear H
  go_enter Tryz.func31, Tryz.ntmps31
  go_wp2_with fail
  refine hP.mono ?_; rintro e u0 ⟨rfl, _, k0⟩
  have k1 : Chg [] w (u0.alloc (.cells #[.int .i64 xa, .int .i64 xp, .int .i64 xf, .bool xw, .bool xu, .bool xx, .bool xd] 62)) := k0.alloc _
  go_wp2_with fail
  generalize u0.alloc (.cells #[.int .i64 xa, .int .i64 xp, .int .i64 xf, .bool xw, .bool xu, .bool xx, .bool xd] 62) = w1 at *
  have hm1 := k1.blk H0.st (by simp)
  have hWk := hWk0 w1 k1
  clear hWk0 hP k0 c0 c1 c2
  refine wp_region_noPanic ?_
  refine wp_region_held_drew (S := (fun w' => Blk w' m 91 #[.pointer (some ⟨t, 0, none⟩), .pointer (some ⟨q, 0, none⟩), .int .i64 sr])) (by kernel_rfl) ?_ (fun hHeld => ?_)
  · exact hm1.drew
  (refine take_on 0 (some 21) (v := ?_) rfl rfl (by kernel_rfl) (by kernel_rfl) (by kernel_rfl) (fun _ _ _ h => h) (by rfl) (by assumption) ?_ ?_; rotate_left; · (intro w hSw; (try dsimp only at hSw); obtain ⟨c0_, c1_, c2_⟩ := blk3 hSw; go_simp; (try with_reducible rfl)))
  (try simp only [Act.put, List.setIfInBounds_toArray, List.set_cons_zero, List.set_cons_succ])
  (refine take_on 1 (some 22) (v := ?_) rfl rfl (by kernel_rfl) (by kernel_rfl) (by kernel_rfl) (fun _ _ _ h => h) (by rfl) (by assumption) ?_ ?_; rotate_left; · (intro w hSw; (try dsimp only at hSw); obtain ⟨c0_, c1_, c2_⟩ := blk3 hSw; go_simp; (try with_reducible rfl)))
  (try simp only [Act.put, List.setIfInBounds_toArray, List.set_cons_zero, List.set_cons_succ])
  (refine take_on 2 (some 23) (v := ?_) rfl rfl (by kernel_rfl) (by kernel_rfl) (by kernel_rfl) (fun _ _ _ h => h) (by rfl) (by assumption) ?_ ?_; rotate_left; · (intro w hSw; (try dsimp only at hSw); obtain ⟨c0_, c1_, c2_⟩ := blk3 hSw; go_simp; (try with_reducible rfl)))
  (try simp only [Act.put, List.setIfInBounds_toArray, List.set_cons_zero, List.set_cons_succ])
  (refine take_on 3 (some 24) (v := ?_) rfl rfl (by kernel_rfl) (by kernel_rfl) (by kernel_rfl) (fun _ _ _ h => h) (by rfl) (by assumption) ?_ ?_; rotate_left; · (intro w hSw; (try dsimp only at hSw); obtain ⟨c0_, c1_, c2_⟩ := blk3 hSw; go_simp; (try with_reducible rfl)))
  (try simp only [Act.put, List.setIfInBounds_toArray, List.set_cons_zero, List.set_cons_succ])
  (refine take_on 4 (some 25) (v := ?_) rfl rfl (by kernel_rfl) (by kernel_rfl) (by kernel_rfl) (fun _ _ _ h => h) (by rfl) (by assumption) ?_ ?_; rotate_left; · (intro w hSw; (try dsimp only at hSw); obtain ⟨c0_, c1_, c2_⟩ := blk3 hSw; go_simp; (try with_reducible rfl)))
  (try simp only [Act.put, List.setIfInBounds_toArray, List.set_cons_zero, List.set_cons_succ])
  (refine take_on 5 (some 26) (v := ?_) rfl rfl (by kernel_rfl) (by kernel_rfl) (by kernel_rfl) (fun _ _ _ h => h) (by rfl) (by assumption) ?_ ?_; rotate_left; · (intro w hSw; (try dsimp only at hSw); obtain ⟨c0_, c1_, c2_⟩ := blk3 hSw; go_simp; (try with_reducible rfl)))
  (try simp only [Act.put, List.setIfInBounds_toArray, List.set_cons_zero, List.set_cons_succ])
  (refine take_on 6 (some 27) (v := ?_) rfl rfl (by kernel_rfl) (by kernel_rfl) (by kernel_rfl) (fun _ _ _ h => h) (by rfl) (by assumption) ?_ ?_; rotate_left; · (intro w hSw; (try dsimp only at hSw); obtain ⟨c0_, c1_, c2_⟩ := blk3 hSw; go_simp; (try with_reducible rfl)))
  (try simp only [Act.put, List.setIfInBounds_toArray, List.set_cons_zero, List.set_cons_succ])
  (refine take_on 7 (some 28) (v := ?_) rfl rfl (by kernel_rfl) (by kernel_rfl) (by kernel_rfl) (fun _ _ _ h => h) (by rfl) (by assumption) ?_ ?_; rotate_left; · (intro w hSw; (try dsimp only at hSw); obtain ⟨c0_, c1_, c2_⟩ := blk3 hSw; go_simp; (try with_reducible rfl)))
  (try simp only [Act.put, List.setIfInBounds_toArray, List.set_cons_zero, List.set_cons_succ])
  (refine take_on 8 (some 29) (v := ?_) rfl rfl (by kernel_rfl) (by kernel_rfl) (by kernel_rfl) (fun _ _ _ h => h) (by rfl) (by assumption) ?_ ?_; rotate_left; · (intro w hSw; (try dsimp only at hSw); obtain ⟨c0_, c1_, c2_⟩ := blk3 hSw; go_simp; (try with_reducible rfl)))
  (try simp only [Act.put, List.setIfInBounds_toArray, List.set_cons_zero, List.set_cons_succ])
  refine wpAnyH_ready (rs := [9, 14]) (by kernel_rfl) (by simp) ?_; refine AllReadyH.cons (o := _) rfl (fun K hK => ?_) (AllReadyH.cons (o := _) rfl (fun K hK => ?_) AllReadyH.nil)
  · go_simp
    (go_at_call 77; refine (hWk _ ((Chg.refl [] w1).drew)).mono ?_; rintro e u1 ⟨A, c, rfl, r1, l1, y1⟩; simp only at *)
    refine hK.out _ _ (by (try dsimp only); exact hHeld.chg_ y1 (by simp)) (fun hHeld => ?_)
    clear hK K
    (try simp only [Act.put, List.setIfInBounds_toArray, List.set_cons_zero, List.set_cons_succ])
    (refine take_on 10 (some 20) (v := ?_) rfl rfl (by kernel_rfl) (by kernel_rfl) (by kernel_rfl) (fun _ _ _ h => h) (by rfl) (by assumption) ?_ ?_; rotate_left; · (intro w hSw; (try dsimp only at hSw); go_simp; (try with_reducible rfl)))
    (try simp only [Act.put, List.setIfInBounds_toArray, List.set_cons_zero, List.set_cons_succ])
    (refine take_on 11 (some 31) (v := ?_) rfl rfl (by kernel_rfl) (by kernel_rfl) (by kernel_rfl) (fun _ _ _ h => h) (by rfl) (by assumption) ?_ ?_; rotate_left; · (intro w hSw; (try dsimp only at hSw); go_simp; (try with_reducible rfl)))
    (try simp only [Act.put, List.setIfInBounds_toArray, List.set_cons_zero, List.set_cons_succ])
    (refine take_on 12 (some 32) (v := ?_) rfl rfl (by kernel_rfl) (by kernel_rfl) (by kernel_rfl) (fun _ _ _ h => h) (by rfl) (by assumption) ?_ ?_; rotate_left; · (intro w hSw; (try dsimp only at hSw); go_simp; (try with_reducible rfl)))
    (try simp only [Act.put, List.setIfInBounds_toArray, List.set_cons_zero, List.set_cons_succ])
    (refine take_on 13 (some 33) (v := ?_) rfl rfl (by kernel_rfl) (by kernel_rfl) (by kernel_rfl) (fun _ _ _ h => h) (by rfl) (by assumption) ?_ ?_; rotate_left; · (intro w hSw; (try dsimp only at hSw); go_simp; (try with_reducible rfl)))
    (try simp only [Act.put, List.setIfInBounds_toArray, List.set_cons_zero, List.set_cons_succ])
    refine wpAnyH_ready (rs := [14]) (by kernel_rfl) (by simp) ?_; refine AllReadyH.cons (o := _) rfl (fun K hK => ?_) AllReadyH.nil
    go_simp
    skip
    refine hK.out _ _ (by (try dsimp only); exact Blk.alloc hHeld _) (fun hHeld => ?_)
    clear hK K
    (try simp only [Act.put, List.setIfInBounds_toArray, List.set_cons_zero, List.set_cons_succ])
    have x0 : Chg [] w1 (u1.alloc (.cells #[.slice none 0 0, .int .i64 0, .bool false, .bool false, .bool false, .bool false, .bool false] 108)) := (((Chg.refl [] w1).drew).trans y1 (by simp)).alloc _
    have hp0 := Blk.new u1 108 #[.slice none 0 0, .int .i64 0, .bool false, .bool false, .bool false, .bool false, .bool false]
    have hne : m ≠ u1.heap.size := by have h1 := hm1.lt; have h2 := x0.size; have h3 := y1.size; simp at h2 h3; omega
    have hlo : ∀ g ∈ (Value.slice A ats.length c).ownBlock.toList, w1.heap.size ≤ g ∧ g ≠ u1.heap.size := fun g hg => ⟨by simpa using l1 g hg, by have := OwnA.lt r1 g hg; omega⟩
    have r2 := OwnA.self r1 ((Chg.refl [] u1).alloc (.cells #[.slice none 0 0, .int .i64 0, .bool false, .bool false, .bool false, .bool false, .bool false] 108))
    have hpl : w1.heap.size ≤ u1.heap.size := by simpa using y1.size
    clear r1 l1 y1
    generalize hu2 : u1.alloc (.cells #[.slice none 0 0, .int .i64 0, .bool false, .bool false, .bool false, .bool false, .bool false] 108) = u2 at *
    generalize u1.heap.size = pb at *
    clear hu2
    obtain ⟨z0, z1, z2, z3, z4, z5, z6, g0, g1, g2, g3, g4, g5, g6⟩ := blk7 hp0
    refine wpAnyH_ready (rs := [15]) (by kernel_rfl) (by simp) ?_; refine AllReadyH.cons (o := _) rfl (fun K hK => ?_) AllReadyH.nil
    go_simp
    skip
    refine hK.out _ _ (by (try dsimp only); exact far7 hHeld hne) (fun hHeld => ?_)
    clear hK K
    (try simp only [Act.put, List.setIfInBounds_toArray, List.set_cons_zero, List.set_cons_succ])
    (refine take_on 16 (some 8) (v := ?_) rfl rfl (by kernel_rfl) (by kernel_rfl) (by kernel_rfl) (fun _ _ _ h => h) (by rfl) (by assumption) ?_ ?_; rotate_left; · (intro w hSw; (try dsimp only at hSw); go_simp; (try with_reducible rfl)))
    (try simp only [Act.put, List.setIfInBounds_toArray, List.set_cons_zero, List.set_cons_succ])
    (refine take_on 17 (some 9) (v := ?_) rfl rfl (by kernel_rfl) (by kernel_rfl) (by kernel_rfl) (fun _ _ _ h => h) (by rfl) (by assumption) ?_ ?_; rotate_left; · (intro w hSw; (try dsimp only at hSw); go_simp; (try with_reducible rfl)))
    (try simp only [Act.put, List.setIfInBounds_toArray, List.set_cons_zero, List.set_cons_succ])
    refine wpAnyH_done (by kernel_rfl) ?_ _
    refine NoPanic.normal ?_
    have hp3 := set7 (y0 := .slice A ats.length c) (y1 := .int .i64 pg) (y2 := .bool rw) (y3 := .bool ru) (y4 := .bool rx) (y5 := .bool lg) (y6 := .bool dy) hp0
    have x3 : Chg [] w1 _ := x0.trans (chg7 (y0 := .slice A ats.length c) (y1 := .int .i64 pg) (y2 := .bool rw) (y3 := .bool ru) (y4 := .bool rx) (y5 := .bool lg) (y6 := .bool dy) (g := pb) (Chg.refl [pb] u2) (by simp)) (by intro i hi hm; simp at hm; subst hm; omega)
    have r3 := OwnA.chg r2 (chg7 (y0 := .slice A ats.length c) (y1 := .int .i64 pg) (y2 := .bool rw) (y3 := .bool ru) (y4 := .bool rx) (y5 := .bool lg) (y6 := .bool dy) (g := pb) (Chg.refl [pb] u2) (by simp)) (fun g hg hm => by simp at hm; exact (hlo g hg).2 hm)
    have hpb := hp3.lt
    clear hHeld r2 hp0 x0 z0 z1 z2 z3 z4 z5 z6 g0 g1 g2 g3 g4 g5 g6
    generalize ((((((u2.setCell ⟨pb, 0, none⟩ (.slice A ats.length c)).setCell ⟨pb, 1, none⟩ (.int .i64 pg)).setCell ⟨pb, 2, none⟩ (.bool rw)).setCell ⟨pb, 3, none⟩ (.bool ru)).setCell ⟨pb, 4, none⟩ (.bool rx)).setCell ⟨pb, 5, none⟩ (.bool lg)).setCell ⟨pb, 6, none⟩ (.bool dy) = w3 at *
    have hlo := fun g hg => (hlo g hg).1
    clear hne hWk
    have k3 : Chg [] w w3 := k1.trans x3 (by simp)
    have H3 := H0.more (G := [pb]) k3 (by intro i hi; simp at hi; subst hi; exact ⟨Nat.le_trans k1.size hpl, hpb⟩)
    clear x3 hm1
    obtain ⟨c0, c1, c2⟩ := H3.c
    obtain ⟨p0_, p1_, p2_, p3_, p4_, p5_, p6_, _, _, _, _, _, _, _⟩ := blk7 hp3
    have K1 := fun nq : Cls w3 => nq.cell c1
    have J0 := fun nq : Cls w3 => nq.cell p0_
    have J1 := fun nq : Cls w3 => nq.cell p1_
    have J2 := fun nq : Cls w3 => nq.cell p2_
    have J3 := fun nq : Cls w3 => nq.cell p3_
    have J4 := fun nq : Cls w3 => nq.cell p4_
    have J5 := fun nq : Cls w3 => nq.cell p5_
    have J6 := fun nq : Cls w3 => nq.cell p6_
    have hsl := OwnA.sla r3
    have hMk := fun nq : Cls w3 => Marked_at q S p L h b n sW A c ⟨ats, pg, ⟨rw, ru, rx⟩, lg, dy⟩ nq.val (H3.gu.self nq.ok) H3.ok.wd (hsl.self nq.ok) hall
    simp only [pathV, hus] at hMk
    clear hus
    go_wp2_with fail
    refine wp_region_cls (by kernel_rfl) (by kernel_rfl) ?_
    repeat (go_big_quiet_step (first | (go_at_call 78; with_reducible exact Calls.cls (hMk _))))
    refine wpQuiet_nil ?_
    rintro _ ⟨n5, rfl⟩
    have k5 := k3.trans n5.ok (by simp)
    have H5 := H3.new n5.ok
    have hp5 := n5.blk hp3
    go_wp2_with fail
    go_ret
    exact ⟨rfl, H5.less (fun i hi => by simp [hi]), Far.of_new k5⟩
  · go_simp
    skip
    refine hK.out _ _ (by (try dsimp only); exact Blk.alloc hHeld _) (fun hHeld => ?_)
    clear hK K
    (try simp only [Act.put, List.setIfInBounds_toArray, List.set_cons_zero, List.set_cons_succ])
    have x9 : Chg [] w1 (w1.drew.alloc (.cells #[.slice none 0 0, .int .i64 0, .bool false, .bool false, .bool false, .bool false, .bool false] 108)) := ((Chg.refl [] w1).drew).alloc _
    have hp9 : Blk (w1.drew.alloc (.cells #[.slice none 0 0, .int .i64 0, .bool false, .bool false, .bool false, .bool false, .bool false] 108)) w1.heap.size 108 #[.slice none 0 0, .int .i64 0, .bool false, .bool false, .bool false, .bool false, .bool false] := Blk.new w1.drew _ _
    refine wpAnyH_ready (rs := [9]) (by kernel_rfl) (by simp) ?_; refine AllReadyH.cons (o := _) rfl (fun K hK => ?_) AllReadyH.nil
    go_simp
    (go_at_call 77; refine (hWk _ x9).mono ?_; rintro e u1 ⟨A, c, rfl, r1, l1, y1⟩; simp only at *)
    refine hK.out _ _ (by (try dsimp only); exact hHeld.chg_ y1 (by simp)) (fun hHeld => ?_)
    clear hK K
    (try simp only [Act.put, List.setIfInBounds_toArray, List.set_cons_zero, List.set_cons_succ])
    (refine take_on 10 (some 20) (v := ?_) rfl rfl (by kernel_rfl) (by kernel_rfl) (by kernel_rfl) (fun _ _ _ h => h) (by rfl) (by assumption) ?_ ?_; rotate_left; · (intro w hSw; (try dsimp only at hSw); go_simp; (try with_reducible rfl)))
    (try simp only [Act.put, List.setIfInBounds_toArray, List.set_cons_zero, List.set_cons_succ])
    (refine take_on 11 (some 31) (v := ?_) rfl rfl (by kernel_rfl) (by kernel_rfl) (by kernel_rfl) (fun _ _ _ h => h) (by rfl) (by assumption) ?_ ?_; rotate_left; · (intro w hSw; (try dsimp only at hSw); go_simp; (try with_reducible rfl)))
    (try simp only [Act.put, List.setIfInBounds_toArray, List.set_cons_zero, List.set_cons_succ])
    (refine take_on 12 (some 32) (v := ?_) rfl rfl (by kernel_rfl) (by kernel_rfl) (by kernel_rfl) (fun _ _ _ h => h) (by rfl) (by assumption) ?_ ?_; rotate_left; · (intro w hSw; (try dsimp only at hSw); go_simp; (try with_reducible rfl)))
    (try simp only [Act.put, List.setIfInBounds_toArray, List.set_cons_zero, List.set_cons_succ])
    (refine take_on 13 (some 33) (v := ?_) rfl rfl (by kernel_rfl) (by kernel_rfl) (by kernel_rfl) (fun _ _ _ h => h) (by rfl) (by assumption) ?_ ?_; rotate_left; · (intro w hSw; (try dsimp only at hSw); go_simp; (try with_reducible rfl)))
    (try simp only [Act.put, List.setIfInBounds_toArray, List.set_cons_zero, List.set_cons_succ])
    have x0 : Chg [] w1 u1 := x9.trans y1 (by simp)
    have hp0 := hp9.chg_ y1 (by simp)
    obtain ⟨pb, hpe⟩ : ∃ pb, pb = w1.heap.size := ⟨_, rfl⟩
    have hne : m ≠ pb := by have h1 := hm1.lt; omega
    have hlo : ∀ g ∈ (Value.slice A ats.length c).ownBlock.toList, w1.heap.size ≤ g ∧ g ≠ pb := fun g hg => by have := l1 g hg; simp at this; omega
    have hpl : w1.heap.size ≤ pb := by omega
    rw [← hpe] at hp0 ⊢
    have r2 := r1
    clear r1 l1 y1 x9 hp9 hpe
    generalize hu2 : u1 = u2 at *
    clear hu2
    obtain ⟨z0, z1, z2, z3, z4, z5, z6, g0, g1, g2, g3, g4, g5, g6⟩ := blk7 hp0
    refine wpAnyH_ready (rs := [15]) (by kernel_rfl) (by simp) ?_; refine AllReadyH.cons (o := _) rfl (fun K hK => ?_) AllReadyH.nil
    go_simp
    skip
    refine hK.out _ _ (by (try dsimp only); exact far7 hHeld hne) (fun hHeld => ?_)
    clear hK K
    (try simp only [Act.put, List.setIfInBounds_toArray, List.set_cons_zero, List.set_cons_succ])
    (refine take_on 16 (some 8) (v := ?_) rfl rfl (by kernel_rfl) (by kernel_rfl) (by kernel_rfl) (fun _ _ _ h => h) (by rfl) (by assumption) ?_ ?_; rotate_left; · (intro w hSw; (try dsimp only at hSw); go_simp; (try with_reducible rfl)))
    (try simp only [Act.put, List.setIfInBounds_toArray, List.set_cons_zero, List.set_cons_succ])
    (refine take_on 17 (some 9) (v := ?_) rfl rfl (by kernel_rfl) (by kernel_rfl) (by kernel_rfl) (fun _ _ _ h => h) (by rfl) (by assumption) ?_ ?_; rotate_left; · (intro w hSw; (try dsimp only at hSw); go_simp; (try with_reducible rfl)))
    (try simp only [Act.put, List.setIfInBounds_toArray, List.set_cons_zero, List.set_cons_succ])
    refine wpAnyH_done (by kernel_rfl) ?_ _
    refine NoPanic.normal ?_
    have hp3 := set7 (y0 := .slice A ats.length c) (y1 := .int .i64 pg) (y2 := .bool rw) (y3 := .bool ru) (y4 := .bool rx) (y5 := .bool lg) (y6 := .bool dy) hp0
    have x3 : Chg [] w1 _ := x0.trans (chg7 (y0 := .slice A ats.length c) (y1 := .int .i64 pg) (y2 := .bool rw) (y3 := .bool ru) (y4 := .bool rx) (y5 := .bool lg) (y6 := .bool dy) (g := pb) (Chg.refl [pb] u2) (by simp)) (by intro i hi hm; simp at hm; subst hm; omega)
    have r3 := OwnA.chg r2 (chg7 (y0 := .slice A ats.length c) (y1 := .int .i64 pg) (y2 := .bool rw) (y3 := .bool ru) (y4 := .bool rx) (y5 := .bool lg) (y6 := .bool dy) (g := pb) (Chg.refl [pb] u2) (by simp)) (fun g hg hm => by simp at hm; exact (hlo g hg).2 hm)
    have hpb := hp3.lt
    clear hHeld r2 hp0 x0 z0 z1 z2 z3 z4 z5 z6 g0 g1 g2 g3 g4 g5 g6
    generalize ((((((u2.setCell ⟨pb, 0, none⟩ (.slice A ats.length c)).setCell ⟨pb, 1, none⟩ (.int .i64 pg)).setCell ⟨pb, 2, none⟩ (.bool rw)).setCell ⟨pb, 3, none⟩ (.bool ru)).setCell ⟨pb, 4, none⟩ (.bool rx)).setCell ⟨pb, 5, none⟩ (.bool lg)).setCell ⟨pb, 6, none⟩ (.bool dy) = w3 at *
    have hlo := fun g hg => (hlo g hg).1
    clear hne hWk
    have k3 : Chg [] w w3 := k1.trans x3 (by simp)
    have H3 := H0.more (G := [pb]) k3 (by intro i hi; simp at hi; subst hi; exact ⟨Nat.le_trans k1.size hpl, hpb⟩)
    clear x3 hm1
    obtain ⟨c0, c1, c2⟩ := H3.c
    obtain ⟨p0_, p1_, p2_, p3_, p4_, p5_, p6_, _, _, _, _, _, _, _⟩ := blk7 hp3
    have K1 := fun nq : Cls w3 => nq.cell c1
    have J0 := fun nq : Cls w3 => nq.cell p0_
    have J1 := fun nq : Cls w3 => nq.cell p1_
    have J2 := fun nq : Cls w3 => nq.cell p2_
    have J3 := fun nq : Cls w3 => nq.cell p3_
    have J4 := fun nq : Cls w3 => nq.cell p4_
    have J5 := fun nq : Cls w3 => nq.cell p5_
    have J6 := fun nq : Cls w3 => nq.cell p6_
    have hsl := OwnA.sla r3
    have hMk := fun nq : Cls w3 => Marked_at q S p L h b n sW A c ⟨ats, pg, ⟨rw, ru, rx⟩, lg, dy⟩ nq.val (H3.gu.self nq.ok) H3.ok.wd (hsl.self nq.ok) hall
    simp only [pathV, hus] at hMk
    clear hus
    go_wp2_with fail
    refine wp_region_cls (by kernel_rfl) (by kernel_rfl) ?_
    repeat (go_big_quiet_step (first | (go_at_call 78; with_reducible exact Calls.cls (hMk _))))
    refine wpQuiet_nil ?_
    rintro _ ⟨n5, rfl⟩
    have k5 := k3.trans n5.ok (by simp)
    have H5 := H3.new n5.ok
    have hp5 := n5.blk hp3
    go_wp2_with fail
    go_ret
    exact ⟨rfl, H5.less (fun i hi => by simp [hi]), Far.of_new k5⟩

set_option maxRecDepth 100000 in
set_option maxHeartbeats 8000000 in
theorem find_done (page : Int) (H : ModB w0 F w m t q S p L h b n s) (P : Pa) (hu : hasT s.T 0 page = false) (hr : walkP n s.W L s.r page 0 false = (P, 0, 0)) (hus : usedAts n s.W L P.ats = true) :
    Calls Tryz.prog 31 #[.pointer (some ⟨m, 0, none⟩), .int .i64 page] w fun e w' => e = .returned (.bool true) ∧ ModB w0 F w' m t q S p L h b n ⟨s.W, s.r, putT 512 s.T (hitP page P false)⟩ ∧ Far F w w' := by
  obtain ⟨c0, c1, c2⟩ := H.c
  have hP := POf_b page H.tb
  rw [hu] at hP
  clear hu
  generalize getT s.T 0 page = x at hP
  obtain ⟨xa, xp, xf, xw, xu, xx, xd⟩ := x
  simp only [Ht.v] at hP
  have H0 := H
  have hWk0 := fun w9 (k9 : Chg [] w w9) => (H.new k9).walk page 0 false P 0 0 hr
  have hlen := walk_len hr
  have hall : P.ats.length ≤ 9223372036854775807 := by omega
  have hgl := (done_of hr).2
  obtain ⟨ats, pg, ⟨rw, ru, rx⟩, lg, dy⟩ := P
  simp only [pathV] at *
  clear hr
  have HE5 := Lib.hid (show hitP page ⟨ats, pg, ⟨rw, ru, rx⟩, lg, dy⟩ false = ⟨0, page, pg, rw, ru, rx, dy⟩ from by simp [hitP])
  rw [HE5.out]
  generalize hT4 : putT 512 s.T ⟨0, page, pg, rw, ru, rx, dy⟩ = T4 at *
  have HT4 := Lib.hid hT4
  clear hT4
  obtain ⟨sW, sr, sT⟩ := s
  simp only at *
  clear H
  go_enter Tryz.func31, Tryz.ntmps31
  go_wp2_with fail
  refine hP.mono ?_; rintro e u0 ⟨rfl, _, k0⟩
  have k1 : Chg [] w (u0.alloc (.cells #[.int .i64 xa, .int .i64 xp, .int .i64 xf, .bool xw, .bool xu, .bool xx, .bool xd] 62)) := k0.alloc _
  go_wp2_with fail
  generalize u0.alloc (.cells #[.int .i64 xa, .int .i64 xp, .int .i64 xf, .bool xw, .bool xu, .bool xx, .bool xd] 62) = w1 at *
  have hm1 := k1.blk H0.st (by simp)
  have hWk := hWk0 w1 k1
  clear hWk0 hP k0 c0 c1 c2
  refine wp_region_noPanic ?_
  refine wp_region_held_drew (S := (fun w' => Blk w' m 91 #[.pointer (some ⟨t, 0, none⟩), .pointer (some ⟨q, 0, none⟩), .int .i64 sr])) (by kernel_rfl) ?_ (fun hHeld => ?_)
  · exact hm1.drew
  (refine take_on 0 (some 21) (v := ?_) rfl rfl (by kernel_rfl) (by kernel_rfl) (by kernel_rfl) (fun _ _ _ h => h) (by rfl) (by assumption) ?_ ?_; rotate_left; · (intro w hSw; (try dsimp only at hSw); obtain ⟨c0_, c1_, c2_⟩ := blk3 hSw; go_simp; (try with_reducible rfl)))
  (try simp only [Act.put, List.setIfInBounds_toArray, List.set_cons_zero, List.set_cons_succ])
  (refine take_on 1 (some 22) (v := ?_) rfl rfl (by kernel_rfl) (by kernel_rfl) (by kernel_rfl) (fun _ _ _ h => h) (by rfl) (by assumption) ?_ ?_; rotate_left; · (intro w hSw; (try dsimp only at hSw); obtain ⟨c0_, c1_, c2_⟩ := blk3 hSw; go_simp; (try with_reducible rfl)))
  (try simp only [Act.put, List.setIfInBounds_toArray, List.set_cons_zero, List.set_cons_succ])
  (refine take_on 2 (some 23) (v := ?_) rfl rfl (by kernel_rfl) (by kernel_rfl) (by kernel_rfl) (fun _ _ _ h => h) (by rfl) (by assumption) ?_ ?_; rotate_left; · (intro w hSw; (try dsimp only at hSw); obtain ⟨c0_, c1_, c2_⟩ := blk3 hSw; go_simp; (try with_reducible rfl)))
  (try simp only [Act.put, List.setIfInBounds_toArray, List.set_cons_zero, List.set_cons_succ])
  (refine take_on 3 (some 24) (v := ?_) rfl rfl (by kernel_rfl) (by kernel_rfl) (by kernel_rfl) (fun _ _ _ h => h) (by rfl) (by assumption) ?_ ?_; rotate_left; · (intro w hSw; (try dsimp only at hSw); obtain ⟨c0_, c1_, c2_⟩ := blk3 hSw; go_simp; (try with_reducible rfl)))
  (try simp only [Act.put, List.setIfInBounds_toArray, List.set_cons_zero, List.set_cons_succ])
  (refine take_on 4 (some 25) (v := ?_) rfl rfl (by kernel_rfl) (by kernel_rfl) (by kernel_rfl) (fun _ _ _ h => h) (by rfl) (by assumption) ?_ ?_; rotate_left; · (intro w hSw; (try dsimp only at hSw); obtain ⟨c0_, c1_, c2_⟩ := blk3 hSw; go_simp; (try with_reducible rfl)))
  (try simp only [Act.put, List.setIfInBounds_toArray, List.set_cons_zero, List.set_cons_succ])
  (refine take_on 5 (some 26) (v := ?_) rfl rfl (by kernel_rfl) (by kernel_rfl) (by kernel_rfl) (fun _ _ _ h => h) (by rfl) (by assumption) ?_ ?_; rotate_left; · (intro w hSw; (try dsimp only at hSw); obtain ⟨c0_, c1_, c2_⟩ := blk3 hSw; go_simp; (try with_reducible rfl)))
  (try simp only [Act.put, List.setIfInBounds_toArray, List.set_cons_zero, List.set_cons_succ])
  (refine take_on 6 (some 27) (v := ?_) rfl rfl (by kernel_rfl) (by kernel_rfl) (by kernel_rfl) (fun _ _ _ h => h) (by rfl) (by assumption) ?_ ?_; rotate_left; · (intro w hSw; (try dsimp only at hSw); obtain ⟨c0_, c1_, c2_⟩ := blk3 hSw; go_simp; (try with_reducible rfl)))
  (try simp only [Act.put, List.setIfInBounds_toArray, List.set_cons_zero, List.set_cons_succ])
  (refine take_on 7 (some 28) (v := ?_) rfl rfl (by kernel_rfl) (by kernel_rfl) (by kernel_rfl) (fun _ _ _ h => h) (by rfl) (by assumption) ?_ ?_; rotate_left; · (intro w hSw; (try dsimp only at hSw); obtain ⟨c0_, c1_, c2_⟩ := blk3 hSw; go_simp; (try with_reducible rfl)))
  (try simp only [Act.put, List.setIfInBounds_toArray, List.set_cons_zero, List.set_cons_succ])
  (refine take_on 8 (some 29) (v := ?_) rfl rfl (by kernel_rfl) (by kernel_rfl) (by kernel_rfl) (fun _ _ _ h => h) (by rfl) (by assumption) ?_ ?_; rotate_left; · (intro w hSw; (try dsimp only at hSw); obtain ⟨c0_, c1_, c2_⟩ := blk3 hSw; go_simp; (try with_reducible rfl)))
  (try simp only [Act.put, List.setIfInBounds_toArray, List.set_cons_zero, List.set_cons_succ])
  refine wpAnyH_ready (rs := [9, 14]) (by kernel_rfl) (by simp) ?_; refine AllReadyH.cons (o := _) rfl (fun K hK => ?_) (AllReadyH.cons (o := _) rfl (fun K hK => ?_) AllReadyH.nil)
  · go_simp
    (go_at_call 77; refine (hWk _ ((Chg.refl [] w1).drew)).mono ?_; rintro e u1 ⟨A, c, rfl, r1, l1, y1⟩; simp only at *)
    refine hK.out _ _ (by (try dsimp only); exact hHeld.chg_ y1 (by simp)) (fun hHeld => ?_)
    clear hK K
    (try simp only [Act.put, List.setIfInBounds_toArray, List.set_cons_zero, List.set_cons_succ])
    (refine take_on 10 (some 20) (v := ?_) rfl rfl (by kernel_rfl) (by kernel_rfl) (by kernel_rfl) (fun _ _ _ h => h) (by rfl) (by assumption) ?_ ?_; rotate_left; · (intro w hSw; (try dsimp only at hSw); go_simp; (try with_reducible rfl)))
    (try simp only [Act.put, List.setIfInBounds_toArray, List.set_cons_zero, List.set_cons_succ])
    (refine take_on 11 (some 31) (v := ?_) rfl rfl (by kernel_rfl) (by kernel_rfl) (by kernel_rfl) (fun _ _ _ h => h) (by rfl) (by assumption) ?_ ?_; rotate_left; · (intro w hSw; (try dsimp only at hSw); go_simp; (try with_reducible rfl)))
    (try simp only [Act.put, List.setIfInBounds_toArray, List.set_cons_zero, List.set_cons_succ])
    (refine take_on 12 (some 32) (v := ?_) rfl rfl (by kernel_rfl) (by kernel_rfl) (by kernel_rfl) (fun _ _ _ h => h) (by rfl) (by assumption) ?_ ?_; rotate_left; · (intro w hSw; (try dsimp only at hSw); go_simp; (try with_reducible rfl)))
    (try simp only [Act.put, List.setIfInBounds_toArray, List.set_cons_zero, List.set_cons_succ])
    (refine take_on 13 (some 33) (v := ?_) rfl rfl (by kernel_rfl) (by kernel_rfl) (by kernel_rfl) (fun _ _ _ h => h) (by rfl) (by assumption) ?_ ?_; rotate_left; · (intro w hSw; (try dsimp only at hSw); go_simp; (try with_reducible rfl)))
    (try simp only [Act.put, List.setIfInBounds_toArray, List.set_cons_zero, List.set_cons_succ])
    refine wpAnyH_ready (rs := [14]) (by kernel_rfl) (by simp) ?_; refine AllReadyH.cons (o := _) rfl (fun K hK => ?_) AllReadyH.nil
    go_simp
    skip
    refine hK.out _ _ (by (try dsimp only); exact Blk.alloc hHeld _) (fun hHeld => ?_)
    clear hK K
    (try simp only [Act.put, List.setIfInBounds_toArray, List.set_cons_zero, List.set_cons_succ])
    have x0 : Chg [] w1 (u1.alloc (.cells #[.slice none 0 0, .int .i64 0, .bool false, .bool false, .bool false, .bool false, .bool false] 108)) := (((Chg.refl [] w1).drew).trans y1 (by simp)).alloc _
    have hp0 := Blk.new u1 108 #[.slice none 0 0, .int .i64 0, .bool false, .bool false, .bool false, .bool false, .bool false]
    have hne : m ≠ u1.heap.size := by have h1 := hm1.lt; have h2 := x0.size; have h3 := y1.size; simp at h2 h3; omega
    have hlo : ∀ g ∈ (Value.slice A ats.length c).ownBlock.toList, w1.heap.size ≤ g ∧ g ≠ u1.heap.size := fun g hg => ⟨by simpa using l1 g hg, by have := OwnA.lt r1 g hg; omega⟩
    have r2 := OwnA.self r1 ((Chg.refl [] u1).alloc (.cells #[.slice none 0 0, .int .i64 0, .bool false, .bool false, .bool false, .bool false, .bool false] 108))
    have hpl : w1.heap.size ≤ u1.heap.size := by simpa using y1.size
    clear r1 l1 y1
    generalize hu2 : u1.alloc (.cells #[.slice none 0 0, .int .i64 0, .bool false, .bool false, .bool false, .bool false, .bool false] 108) = u2 at *
    generalize u1.heap.size = pb at *
    clear hu2
    obtain ⟨z0, z1, z2, z3, z4, z5, z6, g0, g1, g2, g3, g4, g5, g6⟩ := blk7 hp0
    refine wpAnyH_ready (rs := [15]) (by kernel_rfl) (by simp) ?_; refine AllReadyH.cons (o := _) rfl (fun K hK => ?_) AllReadyH.nil
    go_simp
    skip
    refine hK.out _ _ (by (try dsimp only); exact far7 hHeld hne) (fun hHeld => ?_)
    clear hK K
    (try simp only [Act.put, List.setIfInBounds_toArray, List.set_cons_zero, List.set_cons_succ])
    (refine take_on 16 (some 8) (v := ?_) rfl rfl (by kernel_rfl) (by kernel_rfl) (by kernel_rfl) (fun _ _ _ h => h) (by rfl) (by assumption) ?_ ?_; rotate_left; · (intro w hSw; (try dsimp only at hSw); go_simp; (try with_reducible rfl)))
    (try simp only [Act.put, List.setIfInBounds_toArray, List.set_cons_zero, List.set_cons_succ])
    (refine take_on 17 (some 9) (v := ?_) rfl rfl (by kernel_rfl) (by kernel_rfl) (by kernel_rfl) (fun _ _ _ h => h) (by rfl) (by assumption) ?_ ?_; rotate_left; · (intro w hSw; (try dsimp only at hSw); go_simp; (try with_reducible rfl)))
    (try simp only [Act.put, List.setIfInBounds_toArray, List.set_cons_zero, List.set_cons_succ])
    refine wpAnyH_done (by kernel_rfl) ?_ _
    refine NoPanic.normal ?_
    have hp3 := set7 (y0 := .slice A ats.length c) (y1 := .int .i64 pg) (y2 := .bool rw) (y3 := .bool ru) (y4 := .bool rx) (y5 := .bool lg) (y6 := .bool dy) hp0
    have x3 : Chg [] w1 _ := x0.trans (chg7 (y0 := .slice A ats.length c) (y1 := .int .i64 pg) (y2 := .bool rw) (y3 := .bool ru) (y4 := .bool rx) (y5 := .bool lg) (y6 := .bool dy) (g := pb) (Chg.refl [pb] u2) (by simp)) (by intro i hi hm; simp at hm; subst hm; omega)
    have r3 := OwnA.chg r2 (chg7 (y0 := .slice A ats.length c) (y1 := .int .i64 pg) (y2 := .bool rw) (y3 := .bool ru) (y4 := .bool rx) (y5 := .bool lg) (y6 := .bool dy) (g := pb) (Chg.refl [pb] u2) (by simp)) (fun g hg hm => by simp at hm; exact (hlo g hg).2 hm)
    have hpb := hp3.lt
    clear hHeld r2 hp0 x0 z0 z1 z2 z3 z4 z5 z6 g0 g1 g2 g3 g4 g5 g6
    generalize ((((((u2.setCell ⟨pb, 0, none⟩ (.slice A ats.length c)).setCell ⟨pb, 1, none⟩ (.int .i64 pg)).setCell ⟨pb, 2, none⟩ (.bool rw)).setCell ⟨pb, 3, none⟩ (.bool ru)).setCell ⟨pb, 4, none⟩ (.bool rx)).setCell ⟨pb, 5, none⟩ (.bool lg)).setCell ⟨pb, 6, none⟩ (.bool dy) = w3 at *
    have hlo := fun g hg => (hlo g hg).1
    clear hne hWk
    have k3 : Chg [] w w3 := k1.trans x3 (by simp)
    have H3 := H0.more (G := [pb]) k3 (by intro i hi; simp at hi; subst hi; exact ⟨Nat.le_trans k1.size hpl, hpb⟩)
    clear x3 hm1
    obtain ⟨c0, c1, c2⟩ := H3.c
    obtain ⟨p0_, p1_, p2_, p3_, p4_, p5_, p6_, _, _, _, _, _, _, _⟩ := blk7 hp3
    have K1 := fun nq : Cls w3 => nq.cell c1
    have J0 := fun nq : Cls w3 => nq.cell p0_
    have J1 := fun nq : Cls w3 => nq.cell p1_
    have J2 := fun nq : Cls w3 => nq.cell p2_
    have J3 := fun nq : Cls w3 => nq.cell p3_
    have J4 := fun nq : Cls w3 => nq.cell p4_
    have J5 := fun nq : Cls w3 => nq.cell p5_
    have J6 := fun nq : Cls w3 => nq.cell p6_
    have hsl := OwnA.sla r3
    have hMk := fun nq : Cls w3 => Marked_at q S p L h b n sW A c ⟨ats, pg, ⟨rw, ru, rx⟩, lg, dy⟩ nq.val (H3.gu.self nq.ok) H3.ok.wd (hsl.self nq.ok) hall
    simp only [pathV, hus] at hMk
    clear hus
    go_wp2_with fail
    refine wp_region_cls (by kernel_rfl) (by kernel_rfl) ?_
    repeat (go_big_quiet_step (first | (go_at_call 78; with_reducible exact Calls.cls (hMk _))))
    refine wpQuiet_nil ?_
    rintro _ ⟨n5, rfl⟩
    have k5 := k3.trans n5.ok (by simp)
    have H5 := H3.new n5.ok
    have hp5 := n5.blk hp3
    generalize n5.val = w5 at *
    clear c0 c1 c2 p0_ p1_ p2_ p3_ p4_ p5_ p6_ K1 J0 J1 J2 J3 J4 J5 J6 hMk
    have hle := fun w9 (k9 : Chg [] w5 w9) => PLearn_b page A c ⟨ats, pg, ⟨rw, ru, rx⟩, lg, dy⟩ false (H5.new k9).tb
    simp only [pathV, Ht.v, HE5.out, HT4.out] at hle
    go_wp2_with fail
    refine wp_region_noPanic ?_
    refine wp_region_held_drew (S := (fun w' => Blk w' m 91 #[.pointer (some ⟨t, 0, none⟩), .pointer (some ⟨q, 0, none⟩), .int .i64 sr] ∧ Blk w' pb 108 #[.slice A ats.length c, .int .i64 pg, .bool rw, .bool ru, .bool rx, .bool lg, .bool dy])) (by kernel_rfl) ?_ (fun hHeld => ?_)
    · exact ⟨H5.st.drew, hp5.drew⟩
    (refine take_on 0 (some 45) (v := ?_) rfl rfl (by kernel_rfl) (by kernel_rfl) (by kernel_rfl) (fun _ _ _ h => h) (by rfl) (by assumption) ?_ ?_; rotate_left; · (intro w hSw; (try dsimp only at hSw); obtain ⟨hSm, hSp⟩ := hSw; obtain ⟨c0_, c1_, c2_⟩ := blk3 hSm; obtain ⟨z0_, z1_, z2_, z3_, z4_, z5_, z6_, _, _, _, _, _, _, _⟩ := blk7 hSp; go_simp; (try with_reducible rfl)))
    (try simp only [Act.put, List.setIfInBounds_toArray, List.set_cons_zero, List.set_cons_succ])
    (refine take_on 1 (some 46) (v := ?_) rfl rfl (by kernel_rfl) (by kernel_rfl) (by kernel_rfl) (fun _ _ _ h => h) (by rfl) (by assumption) ?_ ?_; rotate_left; · (intro w hSw; (try dsimp only at hSw); obtain ⟨hSm, hSp⟩ := hSw; obtain ⟨c0_, c1_, c2_⟩ := blk3 hSm; obtain ⟨z0_, z1_, z2_, z3_, z4_, z5_, z6_, _, _, _, _, _, _, _⟩ := blk7 hSp; go_simp; (try with_reducible rfl)))
    (try simp only [Act.put, List.setIfInBounds_toArray, List.set_cons_zero, List.set_cons_succ])
    (refine take_on 2 (some 47) (v := ?_) rfl rfl (by kernel_rfl) (by kernel_rfl) (by kernel_rfl) (fun _ _ _ h => h) (by rfl) (by assumption) ?_ ?_; rotate_left; · (intro w hSw; (try dsimp only at hSw); obtain ⟨hSm, hSp⟩ := hSw; obtain ⟨c0_, c1_, c2_⟩ := blk3 hSm; obtain ⟨z0_, z1_, z2_, z3_, z4_, z5_, z6_, _, _, _, _, _, _, _⟩ := blk7 hSp; go_simp; (try with_reducible rfl)))
    (try simp only [Act.put, List.setIfInBounds_toArray, List.set_cons_zero, List.set_cons_succ])
    (refine take_on 3 (some 48) (v := ?_) rfl rfl (by kernel_rfl) (by kernel_rfl) (by kernel_rfl) (fun _ _ _ h => h) (by rfl) (by assumption) ?_ ?_; rotate_left; · (intro w hSw; (try dsimp only at hSw); obtain ⟨hSm, hSp⟩ := hSw; obtain ⟨c0_, c1_, c2_⟩ := blk3 hSm; obtain ⟨z0_, z1_, z2_, z3_, z4_, z5_, z6_, _, _, _, _, _, _, _⟩ := blk7 hSp; go_simp; (try with_reducible rfl)))
    (try simp only [Act.put, List.setIfInBounds_toArray, List.set_cons_zero, List.set_cons_succ])
    (refine take_on 4 (some 49) (v := ?_) rfl rfl (by kernel_rfl) (by kernel_rfl) (by kernel_rfl) (fun _ _ _ h => h) (by rfl) (by assumption) ?_ ?_; rotate_left; · (intro w hSw; (try dsimp only at hSw); obtain ⟨hSm, hSp⟩ := hSw; obtain ⟨c0_, c1_, c2_⟩ := blk3 hSm; obtain ⟨z0_, z1_, z2_, z3_, z4_, z5_, z6_, _, _, _, _, _, _, _⟩ := blk7 hSp; go_simp; (try with_reducible rfl)))
    (try simp only [Act.put, List.setIfInBounds_toArray, List.set_cons_zero, List.set_cons_succ])
    (refine take_on 5 (some 50) (v := ?_) rfl rfl (by kernel_rfl) (by kernel_rfl) (by kernel_rfl) (fun _ _ _ h => h) (by rfl) (by assumption) ?_ ?_; rotate_left; · (intro w hSw; (try dsimp only at hSw); obtain ⟨hSm, hSp⟩ := hSw; obtain ⟨c0_, c1_, c2_⟩ := blk3 hSm; obtain ⟨z0_, z1_, z2_, z3_, z4_, z5_, z6_, _, _, _, _, _, _, _⟩ := blk7 hSp; go_simp; (try with_reducible rfl)))
    (try simp only [Act.put, List.setIfInBounds_toArray, List.set_cons_zero, List.set_cons_succ])
    refine wpAnyH_ready (rs := [6]) (by kernel_rfl) (by simp) ?_; refine AllReadyH.cons (o := _) rfl (fun K hK => ?_) AllReadyH.nil
    go_simp
    (go_at_call 79; refine (hle _ ((Chg.refl [] w5).drew)).mono ?_; rintro e w6 ⟨rfl, h6, f6⟩)
    refine hK.out _ _ (by (try dsimp only); exact ⟨f6.blk hHeld.1 (by simp [mB]), f6.blk hHeld.2 (by simp)⟩) (fun hHeld => ?_)
    clear hK K
    (try simp only [Act.put, List.setIfInBounds_toArray, List.set_cons_zero, List.set_cons_succ])
    refine wpAnyH_done (by kernel_rfl) ?_ _
    refine NoPanic.normal ?_
    have H6 := (H5.new ((Chg.refl [] w5).drew)).setT h6 f6 (H5.ok.put (x := ⟨0, page, pg, rw, ru, rx, dy⟩) ⟨rfl, path_g0 hgl.1, hgl.2.2⟩ |> fun hh => HT4.out ▸ hh)
    go_wp2_with fail
    go_ret
    exact ⟨rfl, H6.less (fun i hi => by simp [hi]), (Far.of_new (k5.trans ((Chg.refl [] w5).drew) (by simp))).trans (f6.less (fun i hi => by simp [hi]))⟩
  · go_simp
    skip
    refine hK.out _ _ (by (try dsimp only); exact Blk.alloc hHeld _) (fun hHeld => ?_)
    clear hK K
    (try simp only [Act.put, List.setIfInBounds_toArray, List.set_cons_zero, List.set_cons_succ])
    have x9 : Chg [] w1 (w1.drew.alloc (.cells #[.slice none 0 0, .int .i64 0, .bool false, .bool false, .bool false, .bool false, .bool false] 108)) := ((Chg.refl [] w1).drew).alloc _
    have hp9 : Blk (w1.drew.alloc (.cells #[.slice none 0 0, .int .i64 0, .bool false, .bool false, .bool false, .bool false, .bool false] 108)) w1.heap.size 108 #[.slice none 0 0, .int .i64 0, .bool false, .bool false, .bool false, .bool false, .bool false] := Blk.new w1.drew _ _
    refine wpAnyH_ready (rs := [9]) (by kernel_rfl) (by simp) ?_; refine AllReadyH.cons (o := _) rfl (fun K hK => ?_) AllReadyH.nil
    go_simp
    (go_at_call 77; refine (hWk _ x9).mono ?_; rintro e u1 ⟨A, c, rfl, r1, l1, y1⟩; simp only at *)
    refine hK.out _ _ (by (try dsimp only); exact hHeld.chg_ y1 (by simp)) (fun hHeld => ?_)
    clear hK K
    (try simp only [Act.put, List.setIfInBounds_toArray, List.set_cons_zero, List.set_cons_succ])
    (refine take_on 10 (some 20) (v := ?_) rfl rfl (by kernel_rfl) (by kernel_rfl) (by kernel_rfl) (fun _ _ _ h => h) (by rfl) (by assumption) ?_ ?_; rotate_left; · (intro w hSw; (try dsimp only at hSw); go_simp; (try with_reducible rfl)))
    (try simp only [Act.put, List.setIfInBounds_toArray, List.set_cons_zero, List.set_cons_succ])
    (refine take_on 11 (some 31) (v := ?_) rfl rfl (by kernel_rfl) (by kernel_rfl) (by kernel_rfl) (fun _ _ _ h => h) (by rfl) (by assumption) ?_ ?_; rotate_left; · (intro w hSw; (try dsimp only at hSw); go_simp; (try with_reducible rfl)))
    (try simp only [Act.put, List.setIfInBounds_toArray, List.set_cons_zero, List.set_cons_succ])
    (refine take_on 12 (some 32) (v := ?_) rfl rfl (by kernel_rfl) (by kernel_rfl) (by kernel_rfl) (fun _ _ _ h => h) (by rfl) (by assumption) ?_ ?_; rotate_left; · (intro w hSw; (try dsimp only at hSw); go_simp; (try with_reducible rfl)))
    (try simp only [Act.put, List.setIfInBounds_toArray, List.set_cons_zero, List.set_cons_succ])
    (refine take_on 13 (some 33) (v := ?_) rfl rfl (by kernel_rfl) (by kernel_rfl) (by kernel_rfl) (fun _ _ _ h => h) (by rfl) (by assumption) ?_ ?_; rotate_left; · (intro w hSw; (try dsimp only at hSw); go_simp; (try with_reducible rfl)))
    (try simp only [Act.put, List.setIfInBounds_toArray, List.set_cons_zero, List.set_cons_succ])
    have x0 : Chg [] w1 u1 := x9.trans y1 (by simp)
    have hp0 := hp9.chg_ y1 (by simp)
    obtain ⟨pb, hpe⟩ : ∃ pb, pb = w1.heap.size := ⟨_, rfl⟩
    have hne : m ≠ pb := by have h1 := hm1.lt; omega
    have hlo : ∀ g ∈ (Value.slice A ats.length c).ownBlock.toList, w1.heap.size ≤ g ∧ g ≠ pb := fun g hg => by have := l1 g hg; simp at this; omega
    have hpl : w1.heap.size ≤ pb := by omega
    rw [← hpe] at hp0 ⊢
    have r2 := r1
    clear r1 l1 y1 x9 hp9 hpe
    generalize hu2 : u1 = u2 at *
    clear hu2
    obtain ⟨z0, z1, z2, z3, z4, z5, z6, g0, g1, g2, g3, g4, g5, g6⟩ := blk7 hp0
    refine wpAnyH_ready (rs := [15]) (by kernel_rfl) (by simp) ?_; refine AllReadyH.cons (o := _) rfl (fun K hK => ?_) AllReadyH.nil
    go_simp
    skip
    refine hK.out _ _ (by (try dsimp only); exact far7 hHeld hne) (fun hHeld => ?_)
    clear hK K
    (try simp only [Act.put, List.setIfInBounds_toArray, List.set_cons_zero, List.set_cons_succ])
    (refine take_on 16 (some 8) (v := ?_) rfl rfl (by kernel_rfl) (by kernel_rfl) (by kernel_rfl) (fun _ _ _ h => h) (by rfl) (by assumption) ?_ ?_; rotate_left; · (intro w hSw; (try dsimp only at hSw); go_simp; (try with_reducible rfl)))
    (try simp only [Act.put, List.setIfInBounds_toArray, List.set_cons_zero, List.set_cons_succ])
    (refine take_on 17 (some 9) (v := ?_) rfl rfl (by kernel_rfl) (by kernel_rfl) (by kernel_rfl) (fun _ _ _ h => h) (by rfl) (by assumption) ?_ ?_; rotate_left; · (intro w hSw; (try dsimp only at hSw); go_simp; (try with_reducible rfl)))
    (try simp only [Act.put, List.setIfInBounds_toArray, List.set_cons_zero, List.set_cons_succ])
    refine wpAnyH_done (by kernel_rfl) ?_ _
    refine NoPanic.normal ?_
    have hp3 := set7 (y0 := .slice A ats.length c) (y1 := .int .i64 pg) (y2 := .bool rw) (y3 := .bool ru) (y4 := .bool rx) (y5 := .bool lg) (y6 := .bool dy) hp0
    have x3 : Chg [] w1 _ := x0.trans (chg7 (y0 := .slice A ats.length c) (y1 := .int .i64 pg) (y2 := .bool rw) (y3 := .bool ru) (y4 := .bool rx) (y5 := .bool lg) (y6 := .bool dy) (g := pb) (Chg.refl [pb] u2) (by simp)) (by intro i hi hm; simp at hm; subst hm; omega)
    have r3 := OwnA.chg r2 (chg7 (y0 := .slice A ats.length c) (y1 := .int .i64 pg) (y2 := .bool rw) (y3 := .bool ru) (y4 := .bool rx) (y5 := .bool lg) (y6 := .bool dy) (g := pb) (Chg.refl [pb] u2) (by simp)) (fun g hg hm => by simp at hm; exact (hlo g hg).2 hm)
    have hpb := hp3.lt
    clear hHeld r2 hp0 x0 z0 z1 z2 z3 z4 z5 z6 g0 g1 g2 g3 g4 g5 g6
    generalize ((((((u2.setCell ⟨pb, 0, none⟩ (.slice A ats.length c)).setCell ⟨pb, 1, none⟩ (.int .i64 pg)).setCell ⟨pb, 2, none⟩ (.bool rw)).setCell ⟨pb, 3, none⟩ (.bool ru)).setCell ⟨pb, 4, none⟩ (.bool rx)).setCell ⟨pb, 5, none⟩ (.bool lg)).setCell ⟨pb, 6, none⟩ (.bool dy) = w3 at *
    have hlo := fun g hg => (hlo g hg).1
    clear hne hWk
    have k3 : Chg [] w w3 := k1.trans x3 (by simp)
    have H3 := H0.more (G := [pb]) k3 (by intro i hi; simp at hi; subst hi; exact ⟨Nat.le_trans k1.size hpl, hpb⟩)
    clear x3 hm1
    obtain ⟨c0, c1, c2⟩ := H3.c
    obtain ⟨p0_, p1_, p2_, p3_, p4_, p5_, p6_, _, _, _, _, _, _, _⟩ := blk7 hp3
    have K1 := fun nq : Cls w3 => nq.cell c1
    have J0 := fun nq : Cls w3 => nq.cell p0_
    have J1 := fun nq : Cls w3 => nq.cell p1_
    have J2 := fun nq : Cls w3 => nq.cell p2_
    have J3 := fun nq : Cls w3 => nq.cell p3_
    have J4 := fun nq : Cls w3 => nq.cell p4_
    have J5 := fun nq : Cls w3 => nq.cell p5_
    have J6 := fun nq : Cls w3 => nq.cell p6_
    have hsl := OwnA.sla r3
    have hMk := fun nq : Cls w3 => Marked_at q S p L h b n sW A c ⟨ats, pg, ⟨rw, ru, rx⟩, lg, dy⟩ nq.val (H3.gu.self nq.ok) H3.ok.wd (hsl.self nq.ok) hall
    simp only [pathV, hus] at hMk
    clear hus
    go_wp2_with fail
    refine wp_region_cls (by kernel_rfl) (by kernel_rfl) ?_
    repeat (go_big_quiet_step (first | (go_at_call 78; with_reducible exact Calls.cls (hMk _))))
    refine wpQuiet_nil ?_
    rintro _ ⟨n5, rfl⟩
    have k5 := k3.trans n5.ok (by simp)
    have H5 := H3.new n5.ok
    have hp5 := n5.blk hp3
    generalize n5.val = w5 at *
    clear c0 c1 c2 p0_ p1_ p2_ p3_ p4_ p5_ p6_ K1 J0 J1 J2 J3 J4 J5 J6 hMk
    have hle := fun w9 (k9 : Chg [] w5 w9) => PLearn_b page A c ⟨ats, pg, ⟨rw, ru, rx⟩, lg, dy⟩ false (H5.new k9).tb
    simp only [pathV, Ht.v, HE5.out, HT4.out] at hle
    go_wp2_with fail
    refine wp_region_noPanic ?_
    refine wp_region_held_drew (S := (fun w' => Blk w' m 91 #[.pointer (some ⟨t, 0, none⟩), .pointer (some ⟨q, 0, none⟩), .int .i64 sr] ∧ Blk w' pb 108 #[.slice A ats.length c, .int .i64 pg, .bool rw, .bool ru, .bool rx, .bool lg, .bool dy])) (by kernel_rfl) ?_ (fun hHeld => ?_)
    · exact ⟨H5.st.drew, hp5.drew⟩
    (refine take_on 0 (some 45) (v := ?_) rfl rfl (by kernel_rfl) (by kernel_rfl) (by kernel_rfl) (fun _ _ _ h => h) (by rfl) (by assumption) ?_ ?_; rotate_left; · (intro w hSw; (try dsimp only at hSw); obtain ⟨hSm, hSp⟩ := hSw; obtain ⟨c0_, c1_, c2_⟩ := blk3 hSm; obtain ⟨z0_, z1_, z2_, z3_, z4_, z5_, z6_, _, _, _, _, _, _, _⟩ := blk7 hSp; go_simp; (try with_reducible rfl)))
    (try simp only [Act.put, List.setIfInBounds_toArray, List.set_cons_zero, List.set_cons_succ])
    (refine take_on 1 (some 46) (v := ?_) rfl rfl (by kernel_rfl) (by kernel_rfl) (by kernel_rfl) (fun _ _ _ h => h) (by rfl) (by assumption) ?_ ?_; rotate_left; · (intro w hSw; (try dsimp only at hSw); obtain ⟨hSm, hSp⟩ := hSw; obtain ⟨c0_, c1_, c2_⟩ := blk3 hSm; obtain ⟨z0_, z1_, z2_, z3_, z4_, z5_, z6_, _, _, _, _, _, _, _⟩ := blk7 hSp; go_simp; (try with_reducible rfl)))
    (try simp only [Act.put, List.setIfInBounds_toArray, List.set_cons_zero, List.set_cons_succ])
    (refine take_on 2 (some 47) (v := ?_) rfl rfl (by kernel_rfl) (by kernel_rfl) (by kernel_rfl) (fun _ _ _ h => h) (by rfl) (by assumption) ?_ ?_; rotate_left; · (intro w hSw; (try dsimp only at hSw); obtain ⟨hSm, hSp⟩ := hSw; obtain ⟨c0_, c1_, c2_⟩ := blk3 hSm; obtain ⟨z0_, z1_, z2_, z3_, z4_, z5_, z6_, _, _, _, _, _, _, _⟩ := blk7 hSp; go_simp; (try with_reducible rfl)))
    (try simp only [Act.put, List.setIfInBounds_toArray, List.set_cons_zero, List.set_cons_succ])
    (refine take_on 3 (some 48) (v := ?_) rfl rfl (by kernel_rfl) (by kernel_rfl) (by kernel_rfl) (fun _ _ _ h => h) (by rfl) (by assumption) ?_ ?_; rotate_left; · (intro w hSw; (try dsimp only at hSw); obtain ⟨hSm, hSp⟩ := hSw; obtain ⟨c0_, c1_, c2_⟩ := blk3 hSm; obtain ⟨z0_, z1_, z2_, z3_, z4_, z5_, z6_, _, _, _, _, _, _, _⟩ := blk7 hSp; go_simp; (try with_reducible rfl)))
    (try simp only [Act.put, List.setIfInBounds_toArray, List.set_cons_zero, List.set_cons_succ])
    (refine take_on 4 (some 49) (v := ?_) rfl rfl (by kernel_rfl) (by kernel_rfl) (by kernel_rfl) (fun _ _ _ h => h) (by rfl) (by assumption) ?_ ?_; rotate_left; · (intro w hSw; (try dsimp only at hSw); obtain ⟨hSm, hSp⟩ := hSw; obtain ⟨c0_, c1_, c2_⟩ := blk3 hSm; obtain ⟨z0_, z1_, z2_, z3_, z4_, z5_, z6_, _, _, _, _, _, _, _⟩ := blk7 hSp; go_simp; (try with_reducible rfl)))
    (try simp only [Act.put, List.setIfInBounds_toArray, List.set_cons_zero, List.set_cons_succ])
    (refine take_on 5 (some 50) (v := ?_) rfl rfl (by kernel_rfl) (by kernel_rfl) (by kernel_rfl) (fun _ _ _ h => h) (by rfl) (by assumption) ?_ ?_; rotate_left; · (intro w hSw; (try dsimp only at hSw); obtain ⟨hSm, hSp⟩ := hSw; obtain ⟨c0_, c1_, c2_⟩ := blk3 hSm; obtain ⟨z0_, z1_, z2_, z3_, z4_, z5_, z6_, _, _, _, _, _, _, _⟩ := blk7 hSp; go_simp; (try with_reducible rfl)))
    (try simp only [Act.put, List.setIfInBounds_toArray, List.set_cons_zero, List.set_cons_succ])
    refine wpAnyH_ready (rs := [6]) (by kernel_rfl) (by simp) ?_; refine AllReadyH.cons (o := _) rfl (fun K hK => ?_) AllReadyH.nil
    go_simp
    (go_at_call 79; refine (hle _ ((Chg.refl [] w5).drew)).mono ?_; rintro e w6 ⟨rfl, h6, f6⟩)
    refine hK.out _ _ (by (try dsimp only); exact ⟨f6.blk hHeld.1 (by simp [mB]), f6.blk hHeld.2 (by simp)⟩) (fun hHeld => ?_)
    clear hK K
    (try simp only [Act.put, List.setIfInBounds_toArray, List.set_cons_zero, List.set_cons_succ])
    refine wpAnyH_done (by kernel_rfl) ?_ _
    refine NoPanic.normal ?_
    have H6 := (H5.new ((Chg.refl [] w5).drew)).setT h6 f6 (H5.ok.put (x := ⟨0, page, pg, rw, ru, rx, dy⟩) ⟨rfl, path_g0 hgl.1, hgl.2.2⟩ |> fun hh => HT4.out ▸ hh)
    go_wp2_with fail
    go_ret
    exact ⟨rfl, H6.less (fun i hi => by simp [hi]), (Far.of_new (k5.trans ((Chg.refl [] w5).drew) (by simp))).trans (f6.less (fun i hi => by simp [hi]))⟩

end

end Go.Proofs.YtgebfagiomcmbaaGreatDoor
