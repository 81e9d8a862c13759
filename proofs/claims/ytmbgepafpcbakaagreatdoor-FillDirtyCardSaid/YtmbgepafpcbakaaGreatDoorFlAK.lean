/-
 The program's filler, with its guard, beside other things: its small calls.
-/
import Derived.Test.YtmbgepafpcbakaaGreatDoorGGaK
import Derived.Test.YtmbgepafpcbakaaGreatDoorGPlK
import Derived.Test.YtmbgepafpcbakaaGreatDoorG8bK
import Derived.Test.YtmbgepafpcbakaaGreatDoorLateK
import Derived.Deep.CutRange
import Derived.Deep.MidRow
namespace Go.Proofs.YtmbgepafpcbakaaGreatDoor
open Go.RowKit Go.Maps
section
variable {P : Program} {md : Region.Mode} {ops : Array Oper} {Q : Exit → Act → World → Prop} {S : World → Prop} {fuel : Nat} {listed : Array Bool} {a : Act} {w : World}
theorem tkz (i d : Nat) (v : Value) {oi : Oper} (hy : ∀ w, S w → (execOp a.eval oi).run P w = .ok (.value v) w) (h : wpAnyH P md ops Q S fuel (listed.setIfInBounds i true) (a.put (some d) v) w) (hi : ops[i]? = some oi := by exact rfl) (hd : oi.dst = some d := by exact rfl)
    (hs : Region.noSelect ops = true := by kernel_rfl) (hf : Region.free md ops listed i = true := by kernel_rfl) (hr : (Region.ready md ops listed).contains i = true := by kernel_rfl)
    (hQ : ∀ c a w, Q (.panic c) (a.put oi.dst v) w → Q (.panic c) a w := by exact fun _ _ _ h => h) (hw : Region.wanted oi (yielded ops a.tmps) = true := by rfl) (hS : S w := by assumption) : wpAnyH P md ops Q S (fuel + 1) listed a w :=
  take_on i (some d) hi hd hs hf hr hQ hw hS hy h
end
theorem late_off {P : Program} {md : Region.Mode} {ops : Array Oper} {Q : Exit → Act → World → Prop} {S : World → Prop} {Z : Nat} (i : Nat) (d : Option Tmp) {oi : Oper} {k : Nat} {l : Array Bool} {a : Act} {w : World} (hi : ops[i]? = some oi) (hd : oi.dst = d) (hs : Region.noSelect ops = true) (hf : Region.free md ops l i = true) (hr : (Region.ready md ops l).contains i = true)
  (hz : (ops[Z]?.any fun o => o.after.any fun e => Region.binds md e && e.on == i) = true) (hQ : ∀ c a w, Q (.panic c) (a.put oi.dst undef) w → Q (.panic c) a w) (hw : Region.wanted oi (yielded ops a.tmps) = false) (hS : S w)
  (h : Late P md ops Q S Z k (l.setIfInBounds i true) (a.put d undef) w) : Late P md ops Q S Z (k + 1) l a w :=
 late_ahead hi hs hQ hz k l a w (Region.free_spec hi hf) (by simpa using hr) (.inr ⟨hw, rfl⟩) hS (hd ▸ h)
def setMany (cs : Array Value) : Nat → List Value → Array Value
 | _, [] => cs
 | o, v :: r => setMany (cs.setIfInBounds o v) (o + 1) r
theorem setMany_get : ∀ (vs : List Value) (o : Nat) (cs : Array Value) (i : Nat), (setMany cs o vs)[i]? = if o ≤ i ∧ i < o + vs.length ∧ i < cs.size then vs[i - o]? else cs[i]?
 | [], o, cs, i => by rw [setMany, if_neg (by simp; omega)]
 | v :: r, o, cs, i => by
  rw [setMany, setMany_get r]
  simp only [Array.size_setIfInBounds, List.length_cons, Array.getElem?_setIfInBounds]
  by_cases h : i = o
  ·subst h
   by_cases h2 : i < cs.size
   ·rw [if_neg (by omega), if_pos rfl, if_pos h2, if_pos ⟨by omega, by omega, h2⟩]; simp
   rw [if_neg (by omega), if_pos rfl, if_neg h2, if_neg (by omega), Array.getElem?_eq_none (by omega)]
  by_cases h2 : o + 1 ≤ i ∧ i < o + 1 + r.length ∧ i < cs.size
  ·rw [if_pos h2, if_pos (by omega), show i - o = (i - (o + 1)) + 1 by omega]; simp
  rw [if_neg h2, if_neg (by omega), if_neg (by omega)]
theorem setMany_all {cs : Array Value} {vs : List Value} (h : vs.length = cs.size) : setMany cs 0 vs = vs.toArray := by
 apply Array.ext_getElem?
 intro i
 rw [setMany_get]
 by_cases h2 : i < cs.size
 ·rw [if_pos (by omega)]; simp
 rw [if_neg (by omega), Array.getElem?_eq_none (by omega), Array.getElem?_eq_none (by simp; omega)]
theorem SepC.putMany {w0 : World} {l : List Th} {g : Nat} {ty : TypeId} : ∀ (vs : List Value) (o : Nat) {w : World} {cs : Array Value}, SepC w0 w (blkT g ty cs :: l) → SepC w0 (w.setCells g o vs) (blkT g ty (setMany cs o vs) :: l)
 | [], _, _, _, H => H
 | v :: r, o, _, _, H => SepC.putMany r (o + 1) (H.cellSet o v)
theorem SepC.putAll {w0 w : World} {l : List Th} {g : Nat} {ty : TypeId} {cs : Array Value} (H : SepC w0 w (blkT g ty cs :: l)) (vs : Array Value) (h : vs.size = cs.size) : SepC w0 (w.setCells g 0 vs.toList) (blkT g ty vs :: l) := by
 have := SepC.putMany vs.toList 0 H
 rw [setMany_all (by simpa using h)] at this
 exact this
theorem Blk.whole {w : World} {g : Nat} {ty : TypeId} {cs : Array Value} (h : Blk w g ty cs) : w.rangeAt g 0 cs.toList := fun j v hv => by
 rw [h.cell, Nat.zero_add]; simpa using hv
def flC (gq mq q dd : Nat) : Array Value := #[.pointer (some ⟨gq, 0, none⟩), .pointer (some ⟨mq, 0, none⟩), .pointer (some ⟨q, 0, none⟩), .pointer (some ⟨dd, 0, none⟩)]
def wkC (fq : Nat) (root page : Int) (A : Option Addr) (cA : Nat) (P : Pa) (dirty : Bool) (e0 e1 e2 : Ent) (tv av : Value) : Array Value :=
 #[.pointer (some ⟨fq, 0, none⟩), .int .i64 root, .int .i64 page, .slice A P.ats.length cA, .int .i64 P.g, .bool P.r.w, .bool P.r.u, .bool P.r.x, .bool P.large, .bool P.dirty, .bool dirty,
  .bool e0.p, .bool e0.w, .bool e0.u, .bool e0.a, .bool e0.d, .bool e0.s, .bool e0.n, .bool e0.bad, .int .i64 e0.f,
  .bool e1.p, .bool e1.w, .bool e1.u, .bool e1.a, .bool e1.d, .bool e1.s, .bool e1.n, .bool e1.bad, .int .i64 e1.f,
  .bool e2.p, .bool e2.w, .bool e2.u, .bool e2.a, .bool e2.d, .bool e2.s, .bool e2.n, .bool e2.bad, .int .i64 e2.f, tv, av]
def Ent.none_ : Ent := ⟨false, false, false, false, false, false, false, false, 0⟩
section
variable {w : World} {g fq gq mq q dd cA : Nat} {ty : TypeId} {root page : Int} {A : Option Addr} {P : Pa} {dirty : Bool} {e0 e1 e2 : Ent} {tv av : Value}
theorem fl_c (h : Blk w g ty (flC gq mq q dd)) : w.cell? ⟨g, 0, none⟩ = some (.pointer (some ⟨gq, 0, none⟩)) ∧ w.cell? ⟨g, 1, none⟩ = some (.pointer (some ⟨mq, 0, none⟩)) ∧ w.cell? ⟨g, 2, none⟩ = some (.pointer (some ⟨q, 0, none⟩)) ∧ w.cell? ⟨g, 3, none⟩ = some (.pointer (some ⟨dd, 0, none⟩)) := ⟨h.cell 0, h.cell 1, h.cell 2, h.cell 3⟩
theorem wk0 (h : Blk w g ty (wkC fq root page A cA P dirty e0 e1 e2 tv av)) : w.cell? ⟨g, 0, none⟩ = some (.pointer (some ⟨fq, 0, none⟩)) := h.cell 0
theorem wk1 (h : Blk w g ty (wkC fq root page A cA P dirty e0 e1 e2 tv av)) : w.cell? ⟨g, 1, none⟩ = some (.int .i64 root) := h.cell 1
theorem wk2 (h : Blk w g ty (wkC fq root page A cA P dirty e0 e1 e2 tv av)) : w.cell? ⟨g, 2, none⟩ = some (.int .i64 page) := h.cell 2
theorem wk3_ (h : Blk w g ty (wkC fq root page A cA P dirty e0 e1 e2 tv av)) : w.cell? ⟨g, 3, none⟩ = some (.slice A P.ats.length cA) := h.cell 3
theorem wk4 (h : Blk w g ty (wkC fq root page A cA P dirty e0 e1 e2 tv av)) : w.cell? ⟨g, 4, none⟩ = some (.int .i64 P.g) := h.cell 4
theorem wk8 (h : Blk w g ty (wkC fq root page A cA P dirty e0 e1 e2 tv av)) : w.cell? ⟨g, 8, none⟩ = some (.bool P.large) := h.cell 8
theorem wk10 (h : Blk w g ty (wkC fq root page A cA P dirty e0 e1 e2 tv av)) : w.cell? ⟨g, 10, none⟩ = some (.bool dirty) := h.cell 10
theorem wk19 (h : Blk w g ty (wkC fq root page A cA P dirty e0 e1 e2 tv av)) : w.cell? ⟨g, 19, none⟩ = some (.int .i64 e0.f) := h.cell 19
theorem wk28 (h : Blk w g ty (wkC fq root page A cA P dirty e0 e1 e2 tv av)) : w.cell? ⟨g, 28, none⟩ = some (.int .i64 e1.f) := h.cell 28
theorem wk38 (h : Blk w g ty (wkC fq root page A cA P dirty e0 e1 e2 tv av)) : w.cell? ⟨g, 38, none⟩ = some (tv) := h.cell 38
theorem wk39 (h : Blk w g ty (wkC fq root page A cA P dirty e0 e1 e2 tv av)) : w.cell? ⟨g, 39, none⟩ = some (av) := h.cell 39
theorem wke0 (h : Blk w g ty (wkC fq root page A cA P dirty e0 e1 e2 tv av)) : w.cell? ⟨g, 11, none⟩ = some (.bool e0.p) ∧ w.cell? ⟨g, 12, none⟩ = some (.bool e0.w) ∧ w.cell? ⟨g, 13, none⟩ = some (.bool e0.u) ∧ w.cell? ⟨g, 14, none⟩ = some (.bool e0.a) ∧ w.cell? ⟨g, 15, none⟩ = some (.bool e0.d) ∧ w.cell? ⟨g, 16, none⟩ = some (.bool e0.s) ∧ w.cell? ⟨g, 17, none⟩ = some (.bool e0.n) ∧ w.cell? ⟨g, 18, none⟩ = some (.bool e0.bad) ∧ w.cell? ⟨g, 19, none⟩ = some (.int .i64 e0.f) := ⟨h.cell 11, h.cell 12, h.cell 13, h.cell 14, h.cell 15, h.cell 16, h.cell 17, h.cell 18, h.cell 19⟩
theorem wke1 (h : Blk w g ty (wkC fq root page A cA P dirty e0 e1 e2 tv av)) : w.cell? ⟨g, 20, none⟩ = some (.bool e1.p) ∧ w.cell? ⟨g, 21, none⟩ = some (.bool e1.w) ∧ w.cell? ⟨g, 22, none⟩ = some (.bool e1.u) ∧ w.cell? ⟨g, 23, none⟩ = some (.bool e1.a) ∧ w.cell? ⟨g, 24, none⟩ = some (.bool e1.d) ∧ w.cell? ⟨g, 25, none⟩ = some (.bool e1.s) ∧ w.cell? ⟨g, 26, none⟩ = some (.bool e1.n) ∧ w.cell? ⟨g, 27, none⟩ = some (.bool e1.bad) ∧ w.cell? ⟨g, 28, none⟩ = some (.int .i64 e1.f) := ⟨h.cell 20, h.cell 21, h.cell 22, h.cell 23, h.cell 24, h.cell 25, h.cell 26, h.cell 27, h.cell 28⟩
theorem wke2 (h : Blk w g ty (wkC fq root page A cA P dirty e0 e1 e2 tv av)) : w.cell? ⟨g, 29, none⟩ = some (.bool e2.p) ∧ w.cell? ⟨g, 30, none⟩ = some (.bool e2.w) ∧ w.cell? ⟨g, 31, none⟩ = some (.bool e2.u) ∧ w.cell? ⟨g, 32, none⟩ = some (.bool e2.a) ∧ w.cell? ⟨g, 33, none⟩ = some (.bool e2.d) ∧ w.cell? ⟨g, 34, none⟩ = some (.bool e2.s) ∧ w.cell? ⟨g, 35, none⟩ = some (.bool e2.n) ∧ w.cell? ⟨g, 36, none⟩ = some (.bool e2.bad) ∧ w.cell? ⟨g, 37, none⟩ = some (.int .i64 e2.f) := ⟨h.cell 29, h.cell 30, h.cell 31, h.cell 32, h.cell 33, h.cell 34, h.cell 35, h.cell 36, h.cell 37⟩
theorem wk_set38 (u : Value) : (wkC fq root page A cA P dirty e0 e1 e2 tv av).setIfInBounds 38 u = wkC fq root page A cA P dirty e0 e1 e2 u av := rfl
theorem wk_set39 (u : Value) : (wkC fq root page A cA P dirty e0 e1 e2 tv av).setIfInBounds 39 u = wkC fq root page A cA P dirty e0 e1 e2 tv u := rfl
end
section
variable {w0 w w' : World} {xq fq mq dd gq mp q hp hb t n a m most : Nat} {L : List Int} {d : Gd} {root page : Int} {A : Option Addr} {cA : Nat} {P : Pa} {dirty : Bool} {e0 e1 e2 : Ent} {tv av : Value} {tk an : List Int} {l : List Th}
theorem SepC.flNew (H : SepC w0 w l) : Calls Tryz.prog 53 #[.pointer (some ⟨gq, 0, none⟩), .pointer (some ⟨mq, 0, none⟩), .pointer (some ⟨q, 0, none⟩), .pointer (some ⟨dd, 0, none⟩)] w fun e w' => ∃ fq, e = .returned (.pointer (some ⟨fq, 0, none⟩)) ∧ SepC w0 w' (blkT fq 202 (flC gq mq q dd) :: l) := by
 have H1 := H.alloc (flC gq mq q dd) 202
 unfold flC at H1
 clear H
 go_enter Tryz.func53, Tryz.ntmps53
 go_wp2_with fail
 go_ret
 exact ⟨_, rfl, H1⟩
set_option maxHeartbeats 1000000 in
theorem SepC.flRole (H : SepC w0 w (blkT xq 175 (wkC fq root page A cA P dirty e0 e1 e2 (tv) (av)) :: ownT (numE .i64) 3 (tv) (tk) :: ownT (numE .i64) 3 (av) (an) :: blkT fq 202 (flC gq mq q dd) :: gdT dd gq mp q hp hb t n a m most L (d) :: mapT mq L :: l)) : Calls Tryz.prog 155 #[.pointer (some ⟨xq, 0, none⟩)] w fun e w' => e = .returned (.int .i64 (if P.large then (if dirty then 2 else 1) else 0)) ∧ w' = w := by
 have c8 := wk8 H.blk
 have c10 := wk10 H.blk
 clear H
 cases hlg : P.large
 ·rw [hlg] at c8
  clear hlg
  go_enter Tryz.func155, Tryz.ntmps155
  go_wp2_with fail
  go_ret
  exact ⟨rfl, rfl⟩
 rw [hlg] at c8
 clear hlg
 cases dirty
 ·go_enter Tryz.func155, Tryz.ntmps155
  go_wp2_with fail
  go_ret
  exact ⟨rfl, rfl⟩
 go_enter Tryz.func155, Tryz.ntmps155
 go_wp2_with fail
 go_ret
 exact ⟨rfl, rfl⟩
set_option maxRecDepth 100000 in
set_option maxHeartbeats 4000000 in
theorem SepC.flKeys (H : SepC w0 w (blkT xq 175 (wkC fq root page A cA P dirty e0 e1 e2 (tv) (av)) :: ownT (numE .i64) 3 (tv) (tk) :: ownT (numE .i64) 3 (av) (an) :: blkT fq 202 (flC gq mq q dd) :: gdT dd gq mp q hp hb t n a m most L (d) :: mapT mq L :: l)) : Calls Tryz.prog 86 #[.pointer (some ⟨xq, 0, none⟩)] w fun e w' => e = .returned (.agg #[.int .i64 root, .int .i64 3, .int .i64 0, .int .i64 e0.f, .int .i64 2, .int .i64 0, .int .i64 e1.f, .int .i64 1, .int .i64 (if P.large then (if dirty then 2 else 1) else 0)]) ∧ Chg [] w w' := by
 have cR := fun {z : World} {l' : List Th} (H' : SepC w0 z (blkT xq 175 (wkC fq root page A cA P dirty e0 e1 e2 (tv) (av)) :: ownT (numE .i64) 3 (tv) (tk) :: ownT (numE .i64) 3 (av) (an) :: blkT fq 202 (flC gq mq q dd) :: gdT dd gq mp q hp hb t n a m most L (d) :: mapT mq L :: l')) => H'.flRole
 obtain ⟨rl, hrl⟩ : ∃ rl : Int, (if P.large then (if dirty then 2 else 1) else 0) = rl := ⟨_, rfl⟩
 simp only [hrl] at cR ⊢
 clear hrl
 have H1 := H.alloc #[.int .i64 0, .int .i64 0, .int .i64 0, .int .i64 0, .int .i64 0, .int .i64 0, .int .i64 0, .int .i64 0, .int .i64 0] 177
 have HB := (SepC.nil w).alloc #[.int .i64 0, .int .i64 0, .int .i64 0, .int .i64 0, .int .i64 0, .int .i64 0, .int .i64 0, .int .i64 0, .int .i64 0] 177
 clear H
 go_enter Tryz.func86, Tryz.ntmps86
 go_upto_region 1 with fail
 generalize w.alloc (.cells #[.int .i64 0, .int .i64 0, .int .i64 0, .int .i64 0, .int .i64 0, .int .i64 0, .int .i64 0, .int .i64 0, .int .i64 0] 177) = w1 at *
 generalize w.heap.size = kb at *
 have HH := H1.new (Chg.refl [] w1).drew
 replace HB := HB.new (Chg.refl [] w1).drew
 clear H1
 refine wp_region_noPanic ?_
 refine late_region (S := (fun w' => Blk w' xq 175 (wkC fq root page A cA P dirty e0 e1 e2 tv av) ∧ Blk w' fq 202 (flC gq mq q dd))) (Z := 22) (by kernel_rfl) ⟨(HH.pick 1 rfl).blk, (HH.pick 4 rfl).blk⟩ (fun hHeld => ?_)
 generalize World.drew w1 = wd at *
 (refine lk 0 3 ?_ ?_ ?_; rotate_left; · (intro w hSw; go_simp; (try with_reducible rfl)))
 (try simp only [Act.put, qI, qO, qU])
 (refine lk 1 4 ?_ ?_ ?_; rotate_left; · (intro w hSw; go_simp; (try with_reducible rfl)))
 (try simp only [Act.put, qI, qO, qU])
 (refine lk 2 5 ?_ ?_ ?_; rotate_left; · (intro w hSw; go_simp; (try with_reducible rfl)))
 (try simp only [Act.put, qI, qO, qU])
 (refine lk 3 6 ?_ ?_ ?_; rotate_left; · (intro w hSw; (try dsimp only at hSw); have c_ := wk1 hSw.1; go_simp; (try with_reducible rfl)))
 (try simp only [Act.put, qI, qO, qU])
 (refine lk 4 7 ?_ ?_ ?_; rotate_left; · (intro w hSw; go_simp; (try with_reducible rfl)))
 (try simp only [Act.put, qI, qO, qU])
 (refine lk 5 8 ?_ ?_ ?_; rotate_left; · (intro w hSw; go_simp; (try with_reducible rfl)))
 (try simp only [Act.put, qI, qO, qU])
 (refine lk 6 9 ?_ ?_ ?_; rotate_left; · (intro w hSw; go_simp; (try with_reducible rfl)))
 (try simp only [Act.put, qI, qO, qU])
 (refine lk 7 10 ?_ ?_ ?_; rotate_left; · (intro w hSw; go_simp; (try with_reducible rfl)))
 (try simp only [Act.put, qI, qO, qU])
 (refine lk 8 11 ?_ ?_ ?_; rotate_left; · (intro w hSw; go_simp; (try with_reducible rfl)))
 (try simp only [Act.put, qI, qO, qU])
 (refine lk 9 12 ?_ ?_ ?_; rotate_left; · (intro w hSw; go_simp; (try with_reducible rfl)))
 (try simp only [Act.put, qI, qO, qU])
 (refine lk 10 13 ?_ ?_ ?_; rotate_left; · (intro w hSw; (try dsimp only at hSw); have c_ := wk19 hSw.1; go_simp; (try with_reducible rfl)))
 (try simp only [Act.put, qI, qO, qU])
 (refine lk 11 14 ?_ ?_ ?_; rotate_left; · (intro w hSw; go_simp; (try with_reducible rfl)))
 (try simp only [Act.put, qI, qO, qU])
 (refine lk 12 15 ?_ ?_ ?_; rotate_left; · (intro w hSw; go_simp; (try with_reducible rfl)))
 (try simp only [Act.put, qI, qO, qU])
 (refine lk 13 16 ?_ ?_ ?_; rotate_left; · (intro w hSw; go_simp; (try with_reducible rfl)))
 (try simp only [Act.put, qI, qO, qU])
 (refine lk 14 17 ?_ ?_ ?_; rotate_left; · (intro w hSw; go_simp; (try with_reducible rfl)))
 (try simp only [Act.put, qI, qO, qU])
 (refine lk 15 18 ?_ ?_ ?_; rotate_left; · (intro w hSw; go_simp; (try with_reducible rfl)))
 (try simp only [Act.put, qI, qO, qU])
 (refine lk 16 19 ?_ ?_ ?_; rotate_left; · (intro w hSw; go_simp; (try with_reducible rfl)))
 (try simp only [Act.put, qI, qO, qU])
 (refine lk 17 20 ?_ ?_ ?_; rotate_left; · (intro w hSw; (try dsimp only at hSw); have c_ := wk28 hSw.1; go_simp; (try with_reducible rfl)))
 (try simp only [Act.put, qI, qO, qU])
 (refine lk 18 21 ?_ ?_ ?_; rotate_left; · (intro w hSw; go_simp; (try with_reducible rfl)))
 (try simp only [Act.put, qI, qO, qU])
 refine lrdy 19 fun K hK => ?_
 go_simp
 (go_at_call 155; refine (cR HH.tail).mono ?_; rintro e u1 ⟨rfl, hz_⟩; subst hz_)
 refine hK.out _ _ (fun _ => by (try dsimp only); exact ⟨(HH.pick 1 rfl).blk, (HH.pick 4 rfl).blk⟩) ?_
 clear hK K
 (try simp only [Act.put, qI, qO, qU])
 have hHeld := (show Blk _ xq 175 (wkC fq root page A cA P dirty e0 e1 e2 tv av) ∧ Blk _ fq 202 (flC gq mq q dd) from ⟨(HH.pick 1 rfl).blk, (HH.pick 4 rfl).blk⟩)
 (refine lk 20 23 ?_ ?_ ?_; rotate_left; · (intro w hSw; go_simp; (try with_reducible rfl)))
 (try simp only [Act.put, qI, qO, qU])
 (refine lk 21 24 ?_ ?_ ?_; rotate_left; · (intro w hSw; go_simp; (try with_reducible rfl)))
 (try simp only [Act.put, qI, qO, qU])
 have x0_ := HH.blk.cell 0; have f0_ := HH.blk.frozen 0
 have x1_ := HH.blk.cell 1; have f1_ := HH.blk.frozen 1
 have x2_ := HH.blk.cell 2; have f2_ := HH.blk.frozen 2
 have x3_ := HH.blk.cell 3; have f3_ := HH.blk.frozen 3
 have x4_ := HH.blk.cell 4; have f4_ := HH.blk.frozen 4
 have x5_ := HH.blk.cell 5; have f5_ := HH.blk.frozen 5
 have x6_ := HH.blk.cell 6; have f6_ := HH.blk.frozen 6
 have x7_ := HH.blk.cell 7; have f7_ := HH.blk.frozen 7
 have x8_ := HH.blk.cell 8; have f8_ := HH.blk.frozen 8
 simp only [qA, qZ, qS] at x0_ x1_ x2_ x3_ x4_ x5_ x6_ x7_ x8_
 refine lrdy 22 fun K hK => ?_
 go_simp
 have HB3 := (((((((((HB).cellSet 0 (.int .i64 root)).cellSet 1 (.int .i64 3)).cellSet 2 (.int .i64 0)).cellSet 3 (.int .i64 e0.f)).cellSet 4 (.int .i64 2)).cellSet 5 (.int .i64 0)).cellSet 6 (.int .i64 e1.f)).cellSet 7 (.int .i64 1)).cellSet 8 (.int .i64 rl)
 have HH3 := (((((((((HH).cellSet 0 (.int .i64 root)).cellSet 1 (.int .i64 3)).cellSet 2 (.int .i64 0)).cellSet 3 (.int .i64 e0.f)).cellSet 4 (.int .i64 2)).cellSet 5 (.int .i64 0)).cellSet 6 (.int .i64 e1.f)).cellSet 7 (.int .i64 1)).cellSet 8 (.int .i64 rl)
 simp only [qI, qO, qU] at HH3
 refine hK.out _ _ (fun e => absurd rfl e) ?_
 clear hK K
 (try simp only [Act.put, qI, qO, qU])
 refine late_done (by kernel_rfl) ?_ _
 refine NoPanic.normal ?_
 clear x0_ f0_ x1_ f1_ x2_ f2_ x3_ f3_ x4_ f4_ x5_ f5_ x6_ f6_ x7_ f7_ x8_ f8_
 go_wp2_with fail
 exact bodyPost_ret (cell_ret rfl HH3.blk rfl Tryz.underlying177 rfl (by kernel_rfl)) rfl ⟨rfl, HB3.1⟩
end
def says3 (a b c : Ent) : Array Value := #[.bool a.p, .bool a.w, .bool a.u, .bool a.a, .bool a.d, .bool a.s, .bool a.n, .bool a.bad, .int .i64 a.f, .bool b.p, .bool b.w, .bool b.u, .bool b.a, .bool b.d, .bool b.s, .bool b.n, .bool b.bad, .int .i64 b.f, .bool c.p, .bool c.w, .bool c.u, .bool c.a, .bool c.d, .bool c.s, .bool c.n, .bool c.bad, .int .i64 c.f]
def sayK (n : Nat) (L W : List Int) (P : Pa) (j k : Nat) : Ent := if k < j then entF n L W P k else Ent.none_
section
variable {w : World} {g : Nat} {ty : TypeId} {a b c : Ent}
theorem says_c (h : Blk w g ty (says3 a b c)) : w.cell? ⟨g, 0, none⟩ = some (.bool a.p) ∧ w.cell? ⟨g, 1, none⟩ = some (.bool a.w) ∧ w.cell? ⟨g, 2, none⟩ = some (.bool a.u) ∧ w.cell? ⟨g, 3, none⟩ = some (.bool a.a) ∧ w.cell? ⟨g, 4, none⟩ = some (.bool a.d) ∧ w.cell? ⟨g, 5, none⟩ = some (.bool a.s) ∧ w.cell? ⟨g, 6, none⟩ = some (.bool a.n) ∧ w.cell? ⟨g, 7, none⟩ = some (.bool a.bad) ∧ w.cell? ⟨g, 8, none⟩ = some (.int .i64 a.f) ∧ w.cell? ⟨g, 9, none⟩ = some (.bool b.p) ∧ w.cell? ⟨g, 10, none⟩ = some (.bool b.w) ∧ w.cell? ⟨g, 11, none⟩ = some (.bool b.u) ∧ w.cell? ⟨g, 12, none⟩ = some (.bool b.a) ∧ w.cell? ⟨g, 13, none⟩ = some (.bool b.d) ∧ w.cell? ⟨g, 14, none⟩ = some (.bool b.s) ∧ w.cell? ⟨g, 15, none⟩ = some (.bool b.n) ∧ w.cell? ⟨g, 16, none⟩ = some (.bool b.bad) ∧ w.cell? ⟨g, 17, none⟩ = some (.int .i64 b.f) ∧ w.cell? ⟨g, 18, none⟩ = some (.bool c.p) ∧ w.cell? ⟨g, 19, none⟩ = some (.bool c.w) ∧ w.cell? ⟨g, 20, none⟩ = some (.bool c.u) ∧ w.cell? ⟨g, 21, none⟩ = some (.bool c.a) ∧ w.cell? ⟨g, 22, none⟩ = some (.bool c.d) ∧ w.cell? ⟨g, 23, none⟩ = some (.bool c.s) ∧ w.cell? ⟨g, 24, none⟩ = some (.bool c.n) ∧ w.cell? ⟨g, 25, none⟩ = some (.bool c.bad) ∧ w.cell? ⟨g, 26, none⟩ = some (.int .i64 c.f) := ⟨h.cell 0, h.cell 1, h.cell 2, h.cell 3, h.cell 4, h.cell 5, h.cell 6, h.cell 7, h.cell 8, h.cell 9, h.cell 10, h.cell 11, h.cell 12, h.cell 13, h.cell 14, h.cell 15, h.cell 16, h.cell 17, h.cell 18, h.cell 19, h.cell 20, h.cell 21, h.cell 22, h.cell 23, h.cell 24, h.cell 25, h.cell 26⟩
theorem says_f {cs : Array Value} (h : Blk w g ty cs) : w.frozen? ⟨g, 0, none⟩ = false ∧ w.frozen? ⟨g, 1, none⟩ = false ∧ w.frozen? ⟨g, 2, none⟩ = false ∧ w.frozen? ⟨g, 3, none⟩ = false ∧ w.frozen? ⟨g, 4, none⟩ = false ∧ w.frozen? ⟨g, 5, none⟩ = false ∧ w.frozen? ⟨g, 6, none⟩ = false ∧ w.frozen? ⟨g, 7, none⟩ = false ∧ w.frozen? ⟨g, 8, none⟩ = false ∧ w.frozen? ⟨g, 9, none⟩ = false ∧ w.frozen? ⟨g, 10, none⟩ = false ∧ w.frozen? ⟨g, 11, none⟩ = false ∧ w.frozen? ⟨g, 12, none⟩ = false ∧ w.frozen? ⟨g, 13, none⟩ = false ∧ w.frozen? ⟨g, 14, none⟩ = false ∧ w.frozen? ⟨g, 15, none⟩ = false ∧ w.frozen? ⟨g, 16, none⟩ = false ∧ w.frozen? ⟨g, 17, none⟩ = false ∧ w.frozen? ⟨g, 18, none⟩ = false ∧ w.frozen? ⟨g, 19, none⟩ = false ∧ w.frozen? ⟨g, 20, none⟩ = false ∧ w.frozen? ⟨g, 21, none⟩ = false ∧ w.frozen? ⟨g, 22, none⟩ = false ∧ w.frozen? ⟨g, 23, none⟩ = false ∧ w.frozen? ⟨g, 24, none⟩ = false ∧ w.frozen? ⟨g, 25, none⟩ = false ∧ w.frozen? ⟨g, 26, none⟩ = false := ⟨h.frozen 0, h.frozen 1, h.frozen 2, h.frozen 3, h.frozen 4, h.frozen 5, h.frozen 6, h.frozen 7, h.frozen 8, h.frozen 9, h.frozen 10, h.frozen 11, h.frozen 12, h.frozen 13, h.frozen 14, h.frozen 15, h.frozen 16, h.frozen 17, h.frozen 18, h.frozen 19, h.frozen 20, h.frozen 21, h.frozen 22, h.frozen 23, h.frozen 24, h.frozen 25, h.frozen 26⟩
set_option maxHeartbeats 4000000 in
theorem says_put0 (x : Ent) : ((((((((((says3 a b c).setIfInBounds 0 (.bool x.p)).setIfInBounds 1 (.bool x.w)).setIfInBounds 2 (.bool x.u)).setIfInBounds 3 (.bool x.a)).setIfInBounds 4 (.bool x.d)).setIfInBounds 5 (.bool x.s)).setIfInBounds 6 (.bool x.n)).setIfInBounds 7 (.bool x.bad)).setIfInBounds 8 (.int .i64 x.f)) = says3 x b c := by
 unfold says3; simp only [qI, qO, qU]
set_option maxHeartbeats 4000000 in
theorem says_put1 (x : Ent) : ((((((((((says3 a b c).setIfInBounds 9 (.bool x.p)).setIfInBounds 10 (.bool x.w)).setIfInBounds 11 (.bool x.u)).setIfInBounds 12 (.bool x.a)).setIfInBounds 13 (.bool x.d)).setIfInBounds 14 (.bool x.s)).setIfInBounds 15 (.bool x.n)).setIfInBounds 16 (.bool x.bad)).setIfInBounds 17 (.int .i64 x.f)) = says3 a x c := by
 unfold says3; simp only [qI, qO, qU]
set_option maxHeartbeats 4000000 in
theorem says_put2 (x : Ent) : ((((((((((says3 a b c).setIfInBounds 18 (.bool x.p)).setIfInBounds 19 (.bool x.w)).setIfInBounds 20 (.bool x.u)).setIfInBounds 21 (.bool x.a)).setIfInBounds 22 (.bool x.d)).setIfInBounds 23 (.bool x.s)).setIfInBounds 24 (.bool x.n)).setIfInBounds 25 (.bool x.bad)).setIfInBounds 26 (.int .i64 x.f)) = says3 a b x := by
 unfold says3; simp only [qI, qO, qU]
end
section
variable {w0 w w' : World} {xq fq mq dd gq mp q hp hb t n a m most : Nat} {L : List Int} {d : Gd} {root page : Int} {A : Option Addr} {cA : Nat} {P : Pa} {dirty : Bool} {e0 e1 e2 : Ent} {tv av : Value} {tk an : List Int} {l : List Th}
theorem SepC.sayPut0 {g : Nat} {ty : TypeId} {a b c : Ent} (H : SepC w0 w (blkT g ty (says3 a b c) :: l)) (x : Ent) : SepC w0 (((((((((w.setCell ⟨g, 0, none⟩ (.bool x.p)).setCell ⟨g, 1, none⟩ (.bool x.w)).setCell ⟨g, 2, none⟩ (.bool x.u)).setCell ⟨g, 3, none⟩ (.bool x.a)).setCell ⟨g, 4, none⟩ (.bool x.d)).setCell ⟨g, 5, none⟩ (.bool x.s)).setCell ⟨g, 6, none⟩ (.bool x.n)).setCell ⟨g, 7, none⟩ (.bool x.bad)).setCell ⟨g, 8, none⟩ (.int .i64 x.f)) (blkT g ty (says3 x b c) :: l) := by
 have h := (((((((((H).cellSet 0 (.bool x.p)).cellSet 1 (.bool x.w)).cellSet 2 (.bool x.u)).cellSet 3 (.bool x.a)).cellSet 4 (.bool x.d)).cellSet 5 (.bool x.s)).cellSet 6 (.bool x.n)).cellSet 7 (.bool x.bad)).cellSet 8 (.int .i64 x.f)
 rw [says_put0] at h; exact h
theorem SepC.sayPut1 {g : Nat} {ty : TypeId} {a b c : Ent} (H : SepC w0 w (blkT g ty (says3 a b c) :: l)) (x : Ent) : SepC w0 (((((((((w.setCell ⟨g, 9, none⟩ (.bool x.p)).setCell ⟨g, 10, none⟩ (.bool x.w)).setCell ⟨g, 11, none⟩ (.bool x.u)).setCell ⟨g, 12, none⟩ (.bool x.a)).setCell ⟨g, 13, none⟩ (.bool x.d)).setCell ⟨g, 14, none⟩ (.bool x.s)).setCell ⟨g, 15, none⟩ (.bool x.n)).setCell ⟨g, 16, none⟩ (.bool x.bad)).setCell ⟨g, 17, none⟩ (.int .i64 x.f)) (blkT g ty (says3 a x c) :: l) := by
 have h := (((((((((H).cellSet 9 (.bool x.p)).cellSet 10 (.bool x.w)).cellSet 11 (.bool x.u)).cellSet 12 (.bool x.a)).cellSet 13 (.bool x.d)).cellSet 14 (.bool x.s)).cellSet 15 (.bool x.n)).cellSet 16 (.bool x.bad)).cellSet 17 (.int .i64 x.f)
 rw [says_put1] at h; exact h
theorem SepC.sayPut2 {g : Nat} {ty : TypeId} {a b c : Ent} (H : SepC w0 w (blkT g ty (says3 a b c) :: l)) (x : Ent) : SepC w0 (((((((((w.setCell ⟨g, 18, none⟩ (.bool x.p)).setCell ⟨g, 19, none⟩ (.bool x.w)).setCell ⟨g, 20, none⟩ (.bool x.u)).setCell ⟨g, 21, none⟩ (.bool x.a)).setCell ⟨g, 22, none⟩ (.bool x.d)).setCell ⟨g, 23, none⟩ (.bool x.s)).setCell ⟨g, 24, none⟩ (.bool x.n)).setCell ⟨g, 25, none⟩ (.bool x.bad)).setCell ⟨g, 26, none⟩ (.int .i64 x.f)) (blkT g ty (says3 a b x) :: l) := by
 have h := (((((((((H).cellSet 18 (.bool x.p)).cellSet 19 (.bool x.w)).cellSet 20 (.bool x.u)).cellSet 21 (.bool x.a)).cellSet 22 (.bool x.d)).cellSet 23 (.bool x.s)).cellSet 24 (.bool x.n)).cellSet 25 (.bool x.bad)).cellSet 26 (.int .i64 x.f)
 rw [says_put2] at h; exact h
end
end Go.Proofs.YtmbgepafpcbakaaGreatDoor
