/-
  The contract of package walk: what the entries of a page's way tell together.
-/
import Derived.Test.YtdfmlodmaipnkaaGreatDoorWalkD
import Derived.Test.YtdfmlodmaipnkaaGreatDoorRightA
namespace Go.Proofs.YtdfmlodmaipnkaaGreatDoor
open Go.RowKit Go.Maps Go.Shelf

attribute [local go_sem] Oper.semAt_some

theorem run_ok {page : Int} : ∀ (l : List It) (p : Pa), (∀ x ∈ l, x.err = none) → runW page l p = .ok (l.foldl (accP page) p)
  | [], _, _ => rfl
  | x :: l, p, h => by
    rw [runW, h x (List.mem_cons_self ..)]
    exact run_ok l _ fun y hy => h y (List.mem_cons_of_mem _ hy)
theorem run_err {page : Int} {x : It} {t : Nat} (hx : x.err = some t) : ∀ (l r : List It) (p : Pa), (∀ x ∈ l, x.err = none) → runW page (l ++ x :: r) p = .error t
  | [], _, _, _ => by rw [List.nil_append, runW, hx]
  | y :: l, r, p, h => by
    rw [List.cons_append, runW, h y (List.mem_cons_self ..)]
    exact run_err hx l r _ fun z hz => h z (List.mem_cons_of_mem _ hz)
theorem seq_f {rd : Int → Int → Option Nat} {page : Int} : ∀ (lv : Nat) (g : Int), ∀ x ∈ seqW rd page lv g, 0 ≤ x.e.f ∧ x.e.f < 1048576
  | 0, _, x, hx => by simp [seqW] at hx
  | lv + 1, g, x, hx => by
    rw [seqW] at hx
    rcases List.mem_cons.1 hx with rfl | hx
    · unfold stepW
      split
      · decide
      · split
        · split
          · decide
          · exact getE_f _
        · decide
    · split at hx
      · cases hx
      · exact seq_f lv _ x hx
theorem fold_len (page : Int) : ∀ (l : List It) (p : Pa), (l.foldl (accP page) p).ats.length = p.ats.length + l.length
  | [], _ => rfl
  | x :: l, p => by rw [List.foldl_cons, fold_len page l, accP, List.length_append, List.length_cons, List.length_cons, List.length_nil]; omega
theorem own_weak {w : World} {b b' : Nat} {t : TypeId} {s n : Nat} {v : Value} {xs : List Value} (h : w.ownsRow b t s v n xs) (hb : b' ≤ b) : w.ownsRow b' t s v n xs := by
  refine ⟨h.1, ?_⟩
  rcases h.2 with h0 | ⟨g, c, cur, hv, hg, h1⟩
  · exact .inl h0
  · exact .inr ⟨g, c, cur, hv, Nat.le_trans hb hg, h1⟩
theorem own_low {w : World} {b : Nat} {t : TypeId} {s n : Nat} {v : Value} {xs : List Value} (h : w.ownsRow b t s v n xs) : ∀ g ∈ v.ownBlock.toList, b ≤ g := by
  intro g hg
  rcases h.2 with ⟨rfl, _⟩ | ⟨g', c, cur, rfl, hb, h1⟩
  · simp [Value.ownBlock] at hg
  · simp [Value.ownBlock] at hg; subst hg; exact hb
theorem own_cells {w : World} {b : Nat} {t : TypeId} {s n : Nat} {v : Value} {xs : List Value} (h : w.ownsRow b t s v n xs) : ∀ g ∈ v.ownBlock.toList, ∃ cs, Blk w g t cs := by
  intro g hg
  rcases h.2 with ⟨rfl, _⟩ | ⟨g', c, cur, rfl, hb, h1, _⟩
  · simp [Value.ownBlock] at hg
  · simp [Value.ownBlock] at hg; subst hg; exact ⟨cur, h1⟩

/-- the three variables of path, and what they hold between two rounds -/
structure PathI (m m1 rb eb pb ab q : Nat) (page kind : Int) (user : Bool) (w : World) (pre : List It) (W : World) : Prop where
  ok : ∀ x ∈ pre, x.err = none
  row : ∃ v, Blk W pb 32 #[v, .int .i64 (pre.foldl (accP page) Pa.start).g, .bool (pre.foldl (accP page) Pa.start).r.w, .bool (pre.foldl (accP page) Pa.start).r.u, .bool (pre.foldl (accP page) Pa.start).r.x, .bool (pre.foldl (accP page) Pa.start).large, .bool (pre.foldl (accP page) Pa.start).dirty] ∧ W.ownsRow m 51 2 v pre.length (flatA (pre.foldl (accP page) Pa.start).ats)
  hr : Blk W rb 32 #[.slice none 0 0, .int .i64 0, .bool false, .bool false, .bool false, .bool false, .bool false]
  he : Blk W eb 65 #[.nilIface]
  ha : Blk W ab 68 #[.pointer (some ⟨q, 0, none⟩), .int .i64 page, .int .i64 kind, .bool user]
  ch : Chg [] w W
  lo : m1 ≤ W.heap.size
structure PathX (rb eb : Nat) (kind : Int) (user : Bool) (w : World) (pre : List It) (W : World) : Prop where
  why : ∃ l x t, pre = l ++ [x] ∧ (∀ y ∈ l, y.err = none) ∧ x.err = some t ∧ Blk W eb 65 #[errO kind user (some t)]
  hr : Blk W rb 32 #[.slice none 0 0, .int .i64 0, .bool false, .bool false, .bool false, .bool false, .bool false]
  ch : Chg [] w W

theorem blk_kept {W W' : World} {row : Option Nat} {g : Nat} {t : TypeId} {cs : Array Value} (h : Blk W g t cs) (hg : W.grownBy W' row) (hr : ∀ r, row = some r → ∃ o : Obj, W.heap[r]? = some o ∧ o.isCells = false) : Blk W' g t cs :=
  (hg.block g h.lt fun e => by
    obtain ⟨o, ho, hc⟩ := hr g e.symm
    rw [show W.heap[g]? = _ from h] at ho
    injection ho with ho; subst ho; cases hc).trans h
theorem own_kept {W W' : World} {row : Option Nat} {b : Nat} {t : TypeId} {s n : Nat} {v : Value} {xs : List Value} (h : W.ownsRow b t s v n xs) (hg : W.grownBy W' row) (hr : ∀ r, row = some r → ∃ o : Obj, W.heap[r]? = some o ∧ o.isCells = false) : W'.ownsRow b t s v n xs := by
  refine ⟨h.1, ?_⟩
  rcases h.2 with h0 | ⟨g, c, cur, hv, hb, h1, h2⟩
  · exact .inl h0
  · exact .inr ⟨g, c, cur, hv, hb, blk_kept (t := t) h1 hg hr, h2⟩
theorem chg_kept {w W W' : World} {row : Option Nat} {B : Nat} (h : Chg [] w W) (hB : w.heap.size ≤ B) (hg : W.grownBy W' row) (hr : ∀ r, row = some r → B ≤ r ∧ ∃ o : Obj, W.heap[r]? = some o ∧ o.isCells = false) : Chg [] w W' :=
  h.trans (Chg.of_grown hg) (fun i hi hm => by
    have := (hr i (by simpa using hm)).1
    omega)
theorem PathI.own {m m1 rb eb pb ab q : Nat} {page kind : Int} {user : Bool} {w : World} {B : Nat} (hB : w.heap.size ≤ B) : OwnFrom B (PathI m m1 rb eb pb ab q page kind user w) := by
  intro pre W W' row h hg hr
  have hr' := fun r e => (hr r e).2
  obtain ⟨v, h1, h2⟩ := h.row
  exact ⟨h.ok, ⟨v, blk_kept h1 hg hr', own_kept h2 hg hr'⟩, blk_kept h.hr hg hr', blk_kept h.he hg hr', blk_kept h.ha hg hr', chg_kept h.ch hB hg hr, Nat.le_trans h.lo hg.size⟩
theorem PathX.own {rb eb : Nat} {kind : Int} {user : Bool} {w : World} {B : Nat} (c : Code) (hB : w.heap.size ≤ B) : OwnFrom B (fun pre W => c = .ret ∧ PathX rb eb kind user w pre W) := by
  rintro pre W W' row ⟨hc, h⟩ hg hr
  have hr' := fun r e => (hr r e).2
  obtain ⟨l, x, t, e1, e2, e3, e4⟩ := h.why
  exact ⟨hc, ⟨l, x, t, e1, e2, e3, blk_kept e4 hg hr'⟩, blk_kept h.hr hg hr', chg_kept h.ch hB hg hr⟩

theorem PathI.snoc {m m1 rb eb pb ab q : Nat} {page kind : Int} {user : Bool} {w W' : World} {pre : List It} {x : It} {P : Pa} {v : Value} (hP : pre.foldl (accP page) Pa.start = P) (hok : ∀ y ∈ pre, y.err = none) (hx : x.err = none)
    (h1 : Blk W' pb 32 #[v, .int .i64 (accP page P x).g, .bool (accP page P x).r.w, .bool (accP page P x).r.u, .bool (accP page P x).r.x, .bool (accP page P x).large, .bool (accP page P x).dirty]) (h2 : W'.ownsRow m 51 2 v (pre.length + 1) (flatA P.ats ++ [.int .i64 x.g, .int .i64 x.i]))
    (hR : Blk W' rb 32 #[.slice none 0 0, .int .i64 0, .bool false, .bool false, .bool false, .bool false, .bool false]) (hE : Blk W' eb 65 #[.nilIface]) (hA : Blk W' ab 68 #[.pointer (some ⟨q, 0, none⟩), .int .i64 page, .int .i64 kind, .bool user]) (hc : Chg [] w W') (hl : m1 ≤ W'.heap.size) : PathI m m1 rb eb pb ab q page kind user w (pre ++ [x]) W' := by
  have e : (pre ++ [x]).foldl (accP page) Pa.start = accP page P x := by rw [List.foldl_append, hP]; rfl
  refine ⟨fun y hy => ?_, ⟨v, by rw [e]; exact h1, ?_⟩, hR, hE, hA, hc, hl⟩
  · rcases List.mem_append.1 hy with h | h
    · exact hok y h
    · rw [List.mem_singleton] at h; rw [h]; exact hx
  · rw [e, List.length_append, List.length_cons, List.length_nil]
    have : flatA (accP page P x).ats = flatA P.ats ++ [.int .i64 x.g, .int .i64 x.i] := by simp [accP, flatA]
    rw [this]; exact h2

set_option maxHeartbeats 1000000 in
theorem entries_acc (q : Nat) (page kind root : Int) (user : Bool) (w : World) :
    Calls Tryz.prog 67 #[.agg #[.pointer (some ⟨q, 0, none⟩), .int .i64 page, .int .i64 kind, .bool user], .int .i64 root] w fun e w' => e = .returned (.func (.func 81) #[] #[.pointer (some ⟨w.heap.size + 1, 0, none⟩), .pointer (some ⟨w.heap.size, 0, none⟩)]) ∧ w' = (w.alloc (.cells #[.pointer (some ⟨q, 0, none⟩), .int .i64 page, .int .i64 kind, .bool user] 68)).alloc (.cells #[.int .i64 root] 3) := by
  have hmf : ∀ (fn : Fn) (first cap : Array Value) (w : World), (Instr.makeFunc fn first cap).run Tryz.prog w = .ok (.func fn first cap) w := fun _ _ _ _ => rfl
  go_enter Tryz.func67, Tryz.ntmps67
  go_wp2
  go_ret
  exact ⟨rfl, rfl⟩

theorem At.info : (Tryz.prog.info? 51).map (fun i => (i.zero, i.size, i.bytes)) = some (some (.agg #[.int .i64 0, .int .i64 0]), 2, 16) := by kernel_rfl

theorem cell2_ret {P : Program} {fn : Func} {p q : Tmp} {ty ty2 : TypeId} (h : fn.results = #[.cell p ty, .cell q ty2]) {tmps : Array Value} {w : World} {g g2 : Nat} {t t2 : TypeId} {cs : Array Value} {u : Value} {d d2 : TypeDesc} (hb : Blk w g t cs) (hb2 : Blk w g2 t2 #[u])
    (hp : tmps.getD p undef = .pointer (some ⟨g, 0, none⟩)) (hq : tmps.getD q undef = .pointer (some ⟨g2, 0, none⟩)) (hu : P.underlying ty = some d) (hd : (match d with | .struct _ | .array _ _ => true | _ => false) = true) (hi : (P.info? ty).map (·.size) = some cs.size)
    (hu2 : P.underlying ty2 = some d2) (hd2 : (match d2 with | .struct _ | .array _ _ => false | _ => true) = true) :
    (results fn tmps).run P w = .ok (.tuple #[.agg cs, u]) w := by
  have hp' : tmps[p]?.getD undef = .pointer (some ⟨g, 0, none⟩) := by simpa using hp
  have hq' : tmps[q]?.getD undef = .pointer (some ⟨g2, 0, none⟩) := by simpa using hq
  have hl2 : (loadVar ty2 ⟨g2, 0, none⟩).run P w = .ok u w := by
    have hc := hb2.cell 0
    simp only [List.getElem?_toArray, List.getElem?_cons_zero] at hc
    cases d2 <;> simp_all [loadVar, isAgg, underlying, Result.andThen]
  simp [results, h, hp', hq', asAddr, run_loadVar_row w g t ty cs (0, 0) d hb hu hd hi, hl2, Result.andThen]

/-- what path hands back -/
def PathR (m : Nat) (kind : Int) (user : Bool) (w : World) : Except Nat Pa → Ending → World → Prop
  | .ok P, e, w' => ∃ A c, e = .returned (.tuple #[.agg (pathV A c P), .nilIface]) ∧ w'.ownsRow m 51 2 (.slice A P.ats.length c) P.ats.length (flatA P.ats) ∧ Chg [] w w'
  | .error t, e, w' => e = .returned (.tuple #[.agg (pathV none 0 Pa.zero), errO kind user (some t)]) ∧ Chg [] w w'

set_option maxRecDepth 100000 in
set_option maxHeartbeats 20000000 in
theorem path_acc (q : Nat) (S : List Nat) (p : Nat) (L : List Int) (h b n : Nat) (W : List Int) (page kind root : Int) (user : Bool) (w : World) (gu : GuIn w q S p L h b n W) (hW : WdW W) :
    Calls Tryz.prog 50 #[.agg #[.pointer (some ⟨q, 0, none⟩), .int .i64 page, .int .i64 kind, .bool user], .int .i64 root] w (PathR w.heap.size kind user w (pathP (rdG n W L) page root)) := by
  have hro : Fence.wide.round = none := rfl
  refine (callsIn_wide (n := 3)).1 ?_
  obtain ⟨i0, hi, hz0, hz1, hz2⟩ := info_parts At.info
  refine callsIn_of_wp_marks Tryz.func50 rfl trivial ?_ hro
  simp only [Tryz.ntmps50, List.size_toArray, List.length_cons, List.length_nil, Nat.reduceAdd, Nat.reduceSub, Array.replicate_succ, Array.replicate_zero, List.push_toArray, List.append_toArray, List.nil_append, List.cons_append]
  have hA0 := ((Blk.new w 68 #[.pointer (some ⟨q, 0, none⟩), .int .i64 page, .int .i64 kind, .bool user]).alloc (.cells #[.slice none 0 0, .int .i64 0, .bool false, .bool false, .bool false, .bool false, .bool false] 32)).alloc (.cells #[.nilIface] 65)
  have hR0 := (Blk.new (w.alloc (.cells #[.pointer (some ⟨q, 0, none⟩), .int .i64 page, .int .i64 kind, .bool user] 68)) 32 #[.slice none 0 0, .int .i64 0, .bool false, .bool false, .bool false, .bool false, .bool false]).alloc (.cells #[.nilIface] 65)
  have hE0 := Blk.new ((w.alloc (.cells #[.pointer (some ⟨q, 0, none⟩), .int .i64 page, .int .i64 kind, .bool user] 68)).alloc (.cells #[.slice none 0 0, .int .i64 0, .bool false, .bool false, .bool false, .bool false, .bool false] 32)) 65 #[.nilIface]
  rw [World.size_alloc] at hR0
  rw [World.size_alloc, World.size_alloc] at hE0
  have hc0 := (((Chg.refl [] w).alloc (.cells #[.pointer (some ⟨q, 0, none⟩), .int .i64 page, .int .i64 kind, .bool user] 68)).alloc (.cells #[.slice none 0 0, .int .i64 0, .bool false, .bool false, .bool false, .bool false, .bool false] 32)).alloc (.cells #[.nilIface] 65)
  gi_wp2
  generalize ((w.alloc (.cells #[.pointer (some ⟨q, 0, none⟩), .int .i64 page, .int .i64 kind, .bool user] 68)).alloc (.cells #[.slice none 0 0, .int .i64 0, .bool false, .bool false, .bool false, .bool false, .bool false] 32)).alloc (.cells #[.nilIface] 65) = w1 at *
  (first | refine ⟨trivial, (fun hh => by cases hh), ?_⟩ | refine ⟨(fun hh => by cases hh), ?_⟩ | refine ⟨trivial, ?_⟩ | skip)
  refine (callsIn_wide.2 (All_any _)).mono ?_; rintro e w2 ⟨rfl, hc2⟩
  have hA2 := hA0.chg_ hc2 (by simp); have hR2 := hR0.chg_ hc2 (by simp); have hE2 := hE0.chg_ hc2 (by simp)
  have hP3 := Blk.new w2 32 #[.slice none 0 0, .int .i64 0, .bool true, .bool true, .bool true, .bool false, .bool false]
  have hc3 := (hc0.trans hc2 (by simp)).alloc (.cells #[.slice none 0 0, .int .i64 0, .bool true, .bool true, .bool true, .bool false, .bool false] 32)
  have hA3 := hA2.alloc (.cells #[.slice none 0 0, .int .i64 0, .bool true, .bool true, .bool true, .bool false, .bool false] 32)
  have hR3 := hR2.alloc (.cells #[.slice none 0 0, .int .i64 0, .bool true, .bool true, .bool true, .bool false, .bool false] 32)
  have hE3 := hE2.alloc (.cells #[.slice none 0 0, .int .i64 0, .bool true, .bool true, .bool true, .bool false, .bool false] 32)
  have hl1 := hA2.lt; have hl2 := hR2.lt; have hl3 := hE2.lt
  clear hA0 hR0 hE0 hc0 hc2 hA2 hR2 hE2
  have a0 := hA3.cell 0; have a1 := hA3.cell 1; have a2 := hA3.cell 2; have a3 := hA3.cell 3
  simp only [List.getElem?_toArray, List.getElem?_cons_zero, List.getElem?_cons_succ] at a0 a1 a2 a3
  unfold Rg.all Rg.cs
  gi_wp2
  generalize hpb : w2.heap.size = pb at *
  generalize w2.alloc (.cells #[.slice none 0 0, .int .i64 0, .bool true, .bool true, .bool true, .bool false, .bool false] 32) = w3 at *
  (first | refine ⟨trivial, (fun hh => by cases hh), ?_⟩ | refine ⟨(fun hh => by cases hh), ?_⟩ | refine ⟨trivial, ?_⟩ | skip)
  refine (callsIn_wide.2 (entries_acc q page kind root user _)).mono ?_; rintro e w4 ⟨rfl, hw4⟩
  have hAc := (Blk.new w3 68 #[.pointer (some ⟨q, 0, none⟩), .int .i64 page, .int .i64 kind, .bool user]).alloc (.cells #[.int .i64 root] 3)
  have hRt := (Blk.new (w3.alloc (.cells #[.pointer (some ⟨q, 0, none⟩), .int .i64 page, .int .i64 kind, .bool user] 68)) 3 #[.int .i64 root]).cell 0
  rw [World.size_alloc] at hRt
  simp only [List.getElem?_toArray, List.getElem?_cons_zero] at hRt
  have hsz4 : w4.heap.size = w3.heap.size + 1 + 1 := by rw [hw4, World.size_alloc, World.size_alloc]
  have hc34 : Chg [] w3 w4 := by rw [hw4]; exact ((Chg.refl [] w3).alloc _).alloc _
  rw [← hw4] at hAc hRt
  have hA4 := hA3.chg_ hc34 (by simp); have hR4 := hR3.chg_ hc34 (by simp); have hE4 := hE3.chg_ hc34 (by simp); have hP4 := hP3.chg_ hc34 (by simp)
  have hc4 := hc3.trans hc34 (by simp)
  have hpl := hP3.lt
  clear hA3 hR3 hE3 hP3 hc3 hc34 hw4 a0 a1 a2 a3
  generalize hrt : w3.heap.size + 1 = rt at *
  generalize hac : w3.heap.size = ac at *
  generalize hmm : w.heap.size = m at *
  have hI0 : PathI m w4.heap.size (m + 1) (m + 1 + 1) pb m q page kind user w [] w4 := ⟨by simp, ⟨.slice none 0 0, hP4, World.ownsRow_nil _ _ _ _⟩, hR4, hE4, hA4, hc4, Nat.le_refl _⟩
  have hmw : m ≤ w4.heap.size := by omega
  have hml : w.heap.size ≤ w4.heap.size := by omega
  clear hA4 hR4 hE4 hP4
  gi_wp2
  refine wpIn_rangeFunc_ownH (a := _) hro (by decide) (gf := 81) (lb := #[.pointer (some ⟨rt, 0, none⟩), .pointer (some ⟨ac, 0, none⟩)]) rfl trivial (enters_of Tryz.func81 (by kernel_rfl) rfl)
    (entries_stops (3 - 1) rt ac q S p L h b n W page kind root user w w4 gu hW hc4 (by omega) hRt hAc) KpE.t (KpE.b hml) (Below.refl _ _) (fun _ => rfl)
    (PathI m w4.heap.size (m + 1) (m + 1 + 1) pb m q page kind user w) (fun c pre W => c = .ret ∧ PathX (m + 1) (m + 1 + 1) kind user w pre W) (PathI.own hml) (fun c => PathX.own c hml) hI0
    (fun x a' W => ∃ Bx, w4.heap.size ≤ Bx ∧ Blk W Bx 129 x.cs ∧ a' = { tmps := #[.agg #[.pointer (some ⟨q, 0, none⟩), .int .i64 page, .int .i64 kind, .bool user], .int .i64 root, .pointer (some ⟨m, 0, none⟩), undef, .pointer (some ⟨m + 1, 0, none⟩), .pointer (some ⟨m + 1 + 1, 0, none⟩), .pointer (some ⟨pb, 0, none⟩), .pointer (some ⟨Bx, 0, none⟩), errO kind user x.err, .agg #[.bool true, .bool true, .bool true], .agg #[.slice none 0 0, .int .i64 0, .bool true, .bool true, .bool true, .bool false, .bool false], .agg #[.pointer (some ⟨q, 0, none⟩), .int .i64 page, .int .i64 kind, .bool user], .int .i64 root, .func (.func 81) #[] #[.pointer (some ⟨rt, 0, none⟩), .pointer (some ⟨ac, 0, none⟩)], .agg x.cs, errO kind user x.err, undef, undef, undef, undef, undef, undef, undef, undef, undef, undef, undef, undef, undef, undef, undef, undef, undef, undef, undef, undef, undef, undef, undef, undef, undef, undef, undef, undef, undef, undef, undef, undef, undef, undef, undef], defers := [] })
    (fun x a' s W W' row hs hg hr => by
      obtain ⟨Bx, h1, h2, h3⟩ := hs
      exact ⟨Bx, h1, blk_kept h2 hg (fun r e => (hr r e).2), h3⟩) ?assign ?body ?done ?stop
  case assign =>
    intro l pre x W2 K hi hK
    have hi' := PathI.own hml pre W2 (W2.alloc (.cells x.cs 129)) none hi (World.grownBy_alloc _ _ _) (fun r e => by cases e)
    have hst := Stp.new ((Chg.refl [] W2).alloc (.cells x.cs 129)) (show w.heap.size ≤ W2.heap.size from hi.ch.size)
    have hnew := Blk.new W2 129 x.cs
    obtain ⟨xl, xg, xi, ⟨ep, ew, eu, ea, ed, es, en, eb, ef⟩, er⟩ := x
    have hK' := hK _ _ (hst.1.from _) hst.2 hi' ⟨W2.heap.size, hi.lo, hnew, rfl⟩
    unfold encE
    simp only [It.cs] at hK' ⊢
    gi_wp2
    exact hK'
  case body =>
    rintro l pre x a' W2 hl ⟨r, hr⟩ hI2 ⟨Bx, hBx, hX, rfl⟩ hlt
    have hN := seq_len (rdG n W L) page 3 root
    have hlast := fun w0 => last_any x w0
    have hframe := fun w0 => frame_any x page w0
    obtain ⟨v, hP, hrow⟩ := hI2.row
    have hok := hI2.ok
    have hR := hI2.hr
    have hE := hI2.he
    have hA := hI2.ha
    have hc := hI2.ch
    have hlo := hI2.lo
    have hlen := fold_len page pre Pa.start
    simp only [Pa.start, List.length_nil, Nat.zero_add] at hlen
    clear hI2
    generalize hPd : pre.foldl (accP page) Pa.start = P at *
    have HPD := Lib.hid hPd
    have hlen' : P.ats.length = pre.length := by rw [← hPd]; simpa [Pa.start] using hlen
    clear hPd hlen
    obtain ⟨xl, xg, xi, ⟨ep, ew, eu, ea, ed, es, en, eb, ef⟩, er⟩ := x
    obtain ⟨pats, pg, ⟨prw, pru, prx⟩, plg, pdy⟩ := P
    simp only at hP hrow hlen'
    have hmW : m ≤ W2.heap.size := by omega
    have hne1 : Bx ≠ pb := by omega
    have hne2 : m ≠ pb := by omega
    cases er with
    | some t =>
      obtain ⟨z0_, z1_, z2_, z3_, z4_, z5_, z6_, y0_, y1_, y2_, y3_, y4_, y5_, y6_⟩ := blk7 hR
      have e0 := hE.cell 0
      have e1 := hE.frozen 0
      simp only [List.getElem?_toArray, List.getElem?_cons_zero] at e0
      have hch := (chg7 (y0 := .slice none 0 0) (y1 := .int .i64 0) (y2 := .bool false) (y3 := .bool false) (y4 := .bool false) (y5 := .bool false) (y6 := .bool false) (Chg.refl [m + 1, m + 1 + 1] W2) (g := m + 1) (by simp)).setCell (p := ⟨m + 1 + 1, 0, none⟩) (by simp) (errO kind user (some t))
      have hst := Stp.of_chg hch hmW (by
        intro i hi
        simp at hi
        rcases hi with rfl | rfl
        · exact ⟨by omega, _, _, hR, by decide, by decide⟩
        · exact ⟨by omega, _, _, hE, by decide, by decide⟩)
      have hR7 := (set7 (y0 := .slice none 0 0) (y1 := .int .i64 0) (y2 := .bool false) (y3 := .bool false) (y4 := .bool false) (y5 := .bool false) (y6 := .bool false) hR).far (p := ⟨m + 1 + 1, 0, none⟩) (by simp) (errO kind user (some t))
      have hE7 := (far7 (g := m + 1) (y0 := .slice none 0 0) (y1 := .int .i64 0) (y2 := .bool false) (y3 := .bool false) (y4 := .bool false) (y5 := .bool false) (y6 := .bool false) hE (by omega)).set_ 0 (errO kind user (some t))
      have hc7 := hst.chg hc hmm.symm
      have HST := Lib.hid hst
      have HFIN : Hid (PathX (m + 1) (m + 1 + 1) kind user w (pre ++ [⟨xl, xg, xi, ⟨ep, ew, eu, ea, ed, es, en, eb, ef⟩, some t⟩]) _) := Lib.hid ⟨⟨pre, _, t, rfl, hok, rfl, hE7⟩, hR7, hc7⟩
      clear hch hst hR7 hE7 hc7
      simp only [errO, stopV] at HST HFIN ⊢
      gi_wp2
      exact ⟨HST.out.1.from _, rfl, HFIN.out⟩
    | none =>
      simp only [errO, It.cs] at hX hlast hframe ⊢
      obtain ⟨p0_, p1_, p2_, p3_, p4_, p5_, p6_, f0_, f1_, f2_, f3_, f4_, f5_, f6_⟩ := blk7 hP
      obtain ⟨er0, er1, er2, er3, er4, er5, er6, er7, er8, er9, er10, er11, eq0, eq1, eq2, eq3, eq4, eq5, eq6, eq7, eq8, eq9, eq10, eq11⟩ := blk12 hX
      have hlt3 : pre.length < 3 := by omega
      have hAt := Blk.new W2 51 #[.int .i64 xg, .int .i64 xi]
      gi_wp2_with (gi_at_builtin; refine wpListIn_append_own _ rfl _ _ 28 rfl m 51 i0 (.agg #[.int .i64 0, .int .i64 0]) 2 16 Tryz.underlying28 hi hz0 hz1 hz2 rfl (by decide) _ _ _ rfl (World.ownsRow.alloc hrow _) ⟨W2.heap.size, 0, none⟩ 1 1 [.int .i64 xg, .int .i64 xi] rfl rfl (fun j u hu => by rw [add_at, Nat.zero_add, hAt.cell]; simpa using hu) (by simp [Value.oneCell']) (by simp [maxLen]; omega) (by omega) (by simp; omega) ?_; intro v' w1 hown' hgrow _; obtain ⟨g', cap', rfl⟩ := ownsRow_succ hown'; have hcg := (((Chg.refl [] W2).alloc (.cells #[.int .i64 xg, .int .i64 xi] 51)).weak (T := v.ownBlock.toList) (by simp)).trans (Chg.of_grown hgrow) (fun i _ hi => hi); clear p0_ p1_ p2_ p3_ p4_ p5_ p6_ f0_ f1_ f2_ f3_ f4_ f5_ f6_; have hP1 := hP.chg_ hcg (fun hi => by (obtain ⟨cs, hb⟩ := own_cells hrow _ hi; exact Blk.type_ne hb hP (by decide) rfl)); obtain ⟨p0_, p1_, p2_, p3_, p4_, p5_, p6_, f0_, f1_, f2_, f3_, f4_, f5_, f6_⟩ := blk7 hP1)
      have hX1 := hX.chg_ hcg (fun hi => by (obtain ⟨cs, hb⟩ := own_cells hrow _ hi; exact Blk.type_ne hb hX (by decide) rfl))
      have hA1 := hA.chg_ hcg (fun hi => by (obtain ⟨cs, hb⟩ := own_cells hrow _ hi; exact Blk.type_ne hb hA (by decide) rfl))
      have hR1 := hR.chg_ hcg (fun hi => by (obtain ⟨cs, hb⟩ := own_cells hrow _ hi; exact Blk.type_ne hb hR (by decide) rfl))
      have hE1 := hE.chg_ hcg (fun hi => by (obtain ⟨cs, hb⟩ := own_cells hrow _ hi; exact Blk.type_ne hb hE (by decide) rfl))
      have hs1 := Stp.of_chg hcg hmW (fun i hi => by (obtain ⟨cs, hb⟩ := own_cells hrow _ hi; exact ⟨own_low hrow _ hi, cs, _, hb, by decide, by decide⟩))
      have hch3 := (Chg.refl [pb] w1).setCell (p := ⟨pb, 0, none⟩) (by simp) (.slice (some ⟨g', 0, none⟩) (pre.length + 1) cap')
      have hs3 := hs1.t (Stp.of_chg hch3 (by have := hcg.size; omega) (by intro i hi; simp at hi; subst hi; exact ⟨by omega, _, _, hP1, by decide, by decide⟩))
      have hP3 := hP1.set_ 0 (.slice (some ⟨g', 0, none⟩) (pre.length + 1) cap')
      have hX3 := hX1.chg_ hch3 (by simpa using hne1)
      have hA3 := hA1.chg_ hch3 (by simpa using hne2)
      have hR3 := hR1.chg_ hch3 (by simp; omega)
      have hE3 := hE1.chg_ hch3 (by simp; omega)
      have hrow3 := own_chg hown' hch3 (fun g hg hi => by (obtain ⟨cs, hb⟩ := own_cells hown' g (by simp [hg]); simp at hi; subst hi; exact Blk.type_ne hb hP1 (by decide) rfl))
      have hc3 := hs3.chg hc hmm.symm
      have hlo3 : w4.heap.size ≤ (w1.setCell ⟨pb, 0, none⟩ (.slice (some ⟨g', 0, none⟩) (pre.length + 1) cap')).heap.size := Nat.le_trans (Nat.le_trans hlo hcg.size) hch3.size
      simp only [List.setIfInBounds_toArray, List.set_cons_zero] at hP3
      clear hX1 hA1 hR1 hE1 hs1 hch3 hP1 hX hA hR hE hc hlo hP hrow hown' hgrow hcg hAt er0 er1 er2 er3 er4 er5 er6 er7 er8 er9 er10 er11 eq0 eq1 eq2 eq3 eq4 eq5 eq6 eq7 eq8 eq9 eq10 eq11 p0_ p1_ p2_ p3_ p4_ p5_ p6_ f0_ f1_ f2_ f3_ f4_ f5_ f6_
      generalize w1.setCell ⟨pb, 0, none⟩ (.slice (some ⟨g', 0, none⟩) (pre.length + 1) cap') = W3 at *
      have hmW3 : m ≤ W3.heap.size := by omega
      obtain ⟨p0_, p1_, p2_, p3_, p4_, p5_, p6_, f0_, f1_, f2_, f3_, f4_, f5_, f6_⟩ := blk7 hP3
      have hOf := fun w0 => Of_any ep ew eu ea ed es en eb ef w0
      have hM : ∀ (g : Nat) (w0 : World), Blk w0 g 30 #[.bool prw, .bool pru, .bool prx, .bool ew, .bool eu, .bool !en] → Calls Tryz.prog 68 #[.slice (some ⟨g, 0, none⟩) 2 2] w0 fun e w' => e = .returned (.agg #[.bool (prw && ew), .bool (pru && eu), .bool (prx && !en)]) ∧ Chg [] w0 w' := fun g w0 hb => by
        have := Meet_any (some ⟨g, 0, none⟩) 2 2 [⟨prw, pru, prx⟩, ⟨ew, eu, !en⟩] w0 (SlR.made2 _ _ hb) (by decide)
        rwa [meet2] at this
      generalize hlb : It.last ⟨xl, xg, xi, ⟨ep, ew, eu, ea, ed, es, en, eb, ef⟩, none⟩ = tl at *
      have HLB := Lib.hid hlb
      clear hlb
      generalize hfv : (if es = true then wrap64 (ef + idxI page 1) else ef) = fv at *
      have HFV := Lib.hid hfv
      clear hfv
      have c3 : Chg [] W3 W3.drew := (Chg.refl [] W3).drew
      refine wpIn_region_only (S := fun w' => Blk w' Bx 129 #[.int .i64 xl, .int .i64 xg, .int .i64 xi, .bool ep, .bool ew, .bool eu, .bool ea, .bool ed, .bool es, .bool en, .bool eb, .int .i64 ef]) (by kernel_rfl) (by kernel_rfl) ?_ (fun hHeld => ?_)
      · exact hX3
      (refine take_on 0 (some 27) (v := ?_) rfl rfl (by kernel_rfl) (by kernel_rfl) (by kernel_rfl) (fun _ _ _ h => h) (by rfl) (by assumption) ?_ ?_; rotate_left; · (intro w hSw; skip; go_simp; (try with_reducible rfl)))
      (try simp only [Act.put, List.setIfInBounds_toArray, List.set_cons_zero, List.set_cons_succ])
      (refine take_on 2 (some 29) (v := ?_) rfl rfl (by kernel_rfl) (by kernel_rfl) (by kernel_rfl) (fun _ _ _ h => h) (by rfl) (by assumption) ?_ ?_; rotate_left; · (intro w hSw; skip; go_simp; (try with_reducible rfl)))
      (try simp only [Act.put, List.setIfInBounds_toArray, List.set_cons_zero, List.set_cons_succ])
      (refine take_on 3 (some 30) (v := ?_) rfl rfl (by kernel_rfl) (by kernel_rfl) (by kernel_rfl) (fun _ _ _ h => h) (by rfl) (by assumption) ?_ ?_; rotate_left; · (intro w hSw; obtain ⟨er0, er1, er2, er3, er4, er5, er6, er7, er8, er9, er10, er11, eq0, eq1, eq2, eq3, eq4, eq5, eq6, eq7, eq8, eq9, eq10, eq11⟩ := blk12 hSw; go_simp; (try with_reducible rfl)))
      (try simp only [Act.put, List.setIfInBounds_toArray, List.set_cons_zero, List.set_cons_succ])
      refine wpAnyH_ready (rs := [1, 4]) (by kernel_rfl) (by simp) ?_; refine AllReadyH.cons (o := _) rfl (fun K hK => ?_) (AllReadyH.cons (o := _) rfl (fun K hK => ?_) AllReadyH.nil)
      · go_simp
        skip
        refine hK.out _ _ (by (try dsimp only); exact hHeld) (fun hHeld => ?_)
        clear hK K
        (try simp only [Act.put, List.setIfInBounds_toArray, List.set_cons_zero, List.set_cons_succ])
        refine wpAnyH_ready (rs := [4]) (by kernel_rfl) (by simp) ?_; refine AllReadyH.cons (o := _) rfl (fun K hK => ?_) AllReadyH.nil
        go_simp
        (go_at_call 69; refine (hOf _).mono ?_; rintro e w5 ⟨rfl, k5⟩; have c5 : Chg [] W3 w5 := Chg.trans c3 k5 (by simp); have hP5 := hP3.chg_ c5 (by simp); clear p0_ p1_ p2_ p3_ p4_ p5_ p6_ f0_ f1_ f2_ f3_ f4_ f5_ f6_; obtain ⟨p0_, p1_, p2_, p3_, p4_, p5_, p6_, f0_, f1_, f2_, f3_, f4_, f5_, f6_⟩ := blk7 hP5)
        refine hK.out _ _ (by (try dsimp only); exact hX3.chg_ c5 (by simp)) (fun hHeld => ?_)
        clear hK K
        (try simp only [Act.put, List.setIfInBounds_toArray, List.set_cons_zero, List.set_cons_succ])
        refine wpAnyH_ready (rs := [5]) (by kernel_rfl) (by simp) ?_; refine AllReadyH.cons (o := _) rfl (fun K hK => ?_) AllReadyH.nil
        go_simp
        skip
        refine hK.out _ _ (by (try dsimp only); exact Blk.alloc hHeld _) (fun hHeld => ?_)
        clear hK K
        (try simp only [Act.put, List.setIfInBounds_toArray, List.set_cons_zero, List.set_cons_succ])
        refine wpAnyH_ready (rs := [6]) (by kernel_rfl) (by simp) ?_; refine AllReadyH.cons (o := _) rfl (fun K hK => ?_) AllReadyH.nil
        go_simp
        (go_at_call 68; refine (hM _ _ (Blk.new w5 30 _)).mono ?_; rintro e w6 ⟨rfl, k6⟩; have c6 : Chg [] W3 w6 := Chg.trans (Chg.alloc c5 (.cells #[.bool prw, .bool pru, .bool prx, .bool ew, .bool eu, .bool !en] 30)) k6 (by simp); have hP6 := hP3.chg_ c6 (by simp); clear p0_ p1_ p2_ p3_ p4_ p5_ p6_ f0_ f1_ f2_ f3_ f4_ f5_ f6_; obtain ⟨p0_, p1_, p2_, p3_, p4_, p5_, p6_, f0_, f1_, f2_, f3_, f4_, f5_, f6_⟩ := blk7 hP6)
        refine hK.out _ _ (by (try dsimp only); exact hX3.chg_ c6 (by simp)) (fun hHeld => ?_)
        clear hK K
        (try simp only [Act.put, List.setIfInBounds_toArray, List.set_cons_zero, List.set_cons_succ])
        refine wpAnyH_ready (rs := [7]) (by kernel_rfl) (by simp) ?_; refine AllReadyH.cons (o := _) rfl (fun K hK => ?_) AllReadyH.nil
        go_simp
        skip
        refine hK.out _ _ (by (try dsimp only); exact hHeld) (fun hHeld => ?_)
        clear hK K
        (try simp only [Act.put, List.setIfInBounds_toArray, List.set_cons_zero, List.set_cons_succ])
        refine wpAnyH_ready (rs := [8]) (by kernel_rfl) (by simp) ?_; refine AllReadyH.cons (o := _) rfl (fun K hK => ?_) AllReadyH.nil
        go_simp
        skip
        refine hK.out _ _ (by (try dsimp only); exact ((hHeld.far hne1 _).far hne1 _).far hne1 _) (fun hHeld => ?_)
        clear hK K
        (try simp only [Act.put, List.setIfInBounds_toArray, List.set_cons_zero, List.set_cons_succ])
        refine wpAnyH_done (by kernel_rfl) ?_ _
        refine Only.normal ?_
        have hch7 := (((Chg.refl [pb] w6).setCell (p := ⟨pb, 2, none⟩) (by simp) (.bool (prw && ew))).setCell (p := ⟨pb, 3, none⟩) (by simp) (.bool (pru && eu))).setCell (p := ⟨pb, 4, none⟩) (by simp) (.bool (prx && !en))
        have hs7 := (hs3.t (Stp.new c6 (by omega))).t (Stp.of_chg hch7 (by have := c6.size; omega) (by intro i hi; simp at hi; subst hi; exact ⟨by omega, _, _, hP6, by decide, by decide⟩))
        have hP7 := ((hP6.set_ 2 (.bool (prw && ew))).set_ 3 (.bool (pru && eu))).set_ 4 (.bool (prx && !en))
        simp only [List.setIfInBounds_toArray, List.set_cons_zero, List.set_cons_succ] at hP7
        have hX7 := (hX3.chg_ c6 (by simp)).chg_ hch7 (by simpa using hne1)
        have hA7 := (hA3.chg_ c6 (by simp)).chg_ hch7 (by simpa using hne2)
        have hR7 := (hR3.chg_ c6 (by simp)).chg_ hch7 (by simp; omega)
        have hE7 := (hE3.chg_ c6 (by simp)).chg_ hch7 (by simp; omega)
        have hrow6 := own_chg hrow3 c6 (by simp)
        have hrow7 := own_chg hrow6 hch7 (fun g hg hi => by (obtain ⟨cs, hb⟩ := own_cells hrow6 g (by simp [hg]); simp at hi; subst hi; exact Blk.type_ne hb hP6 (by decide) rfl))
        have hc7 := (hc3.trans c6 (by simp)).trans hch7 (by intro i hi hm; simp at hm; omega)
        have hlo7 := Nat.le_trans (Nat.le_trans hlo3 c6.size) hch7.size
        clear hrow6 hch7 hP6 c6 k6 hP5 c5 k5 p0_ p1_ p2_ p3_ p4_ p5_ p6_ f0_ f1_ f2_ f3_ f4_ f5_ f6_ hHeld hrow3 hP3 hX3 hA3 hR3 hE3 hs3 hc3 hlo3 c3 hM hOf
        generalize ((w6.setCell ⟨pb, 2, none⟩ (.bool (prw && ew))).setCell ⟨pb, 3, none⟩ (.bool (pru && eu))).setCell ⟨pb, 4, none⟩ (.bool (prx && !en)) = W7 at *
        obtain ⟨er0, er1, er2, er3, er4, er5, er6, er7, er8, er9, er10, er11, eq0, eq1, eq2, eq3, eq4, eq5, eq6, eq7, eq8, eq9, eq10, eq11⟩ := blk12 hX7
        gi_wp2
        (first | refine ⟨trivial, (fun hh => by cases hh), ?_⟩ | refine ⟨(fun hh => by cases hh), ?_⟩ | refine ⟨trivial, ?_⟩ | skip)
        refine (CallsIn.inRound l (callsIn_wide.2 (hlast _))).mono ?_; rintro e w8 ⟨rfl, k8⟩
        have hP8 := hP7.chg_ k8 (by simp); have hX8 := hX7.chg_ k8 (by simp); have hA8 := hA7.chg_ k8 (by simp); have hR8 := hR7.chg_ k8 (by simp); have hE8 := hE7.chg_ k8 (by simp)
        have hrow8 := own_chg hrow7 k8 (by simp)
        have hs8 := hs7.t (Stp.new k8 (by omega))
        have hc8 := hc7.trans k8 (by simp)
        have hlo8 := Nat.le_trans hlo7 k8.size
        clear hP7 hX7 hA7 hR7 hE7 hrow7 hs7 hc7 hlo7 k8 er0 er1 er2 er3 er4 er5 er6 er7 er8 er9 er10 er11 eq0 eq1 eq2 eq3 eq4 eq5 eq6 eq7 eq8 eq9 eq10 eq11
        cases tl with
        | false =>
          gi_wp2
          exact ⟨hs8.1.from _, hmm ▸ hs8.2, PathI.snoc HPD.out hok rfl (by unfold accP; rw [HLB.out]; exact hP8) hrow8 hR8 hE8 hA8 hc8 hlo8⟩
        | true =>
          gi_wp2
          refine wpIn_region_only (S := fun w' => Blk w' Bx 129 #[.int .i64 xl, .int .i64 xg, .int .i64 xi, .bool ep, .bool ew, .bool eu, .bool ea, .bool ed, .bool es, .bool en, .bool eb, .int .i64 ef] ∧ Blk w' m 68 #[.pointer (some ⟨q, 0, none⟩), .int .i64 page, .int .i64 kind, .bool user]) (by kernel_rfl) (by kernel_rfl) ?_ (fun hHeld => ?_)
          · exact ⟨hX8, hA8⟩
          (refine take_on 0 (some 37) (v := ?_) rfl rfl (by kernel_rfl) (by kernel_rfl) (by kernel_rfl) (fun _ _ _ h => h) (by rfl) (by assumption) ?_ ?_; rotate_left; · (intro w hSw; obtain ⟨er0, er1, er2, er3, er4, er5, er6, er7, er8, er9, er10, er11, eq0, eq1, eq2, eq3, eq4, eq5, eq6, eq7, eq8, eq9, eq10, eq11⟩ := blk12 hSw.1; go_simp; (try with_reducible rfl)))
          (try simp only [Act.put, List.setIfInBounds_toArray, List.set_cons_zero, List.set_cons_succ])
          (refine take_on 1 (some 38) (v := ?_) rfl rfl (by kernel_rfl) (by kernel_rfl) (by kernel_rfl) (fun _ _ _ h => h) (by rfl) (by assumption) ?_ ?_; rotate_left; · (intro w hSw; skip; go_simp; (try with_reducible rfl)))
          (try simp only [Act.put, List.setIfInBounds_toArray, List.set_cons_zero, List.set_cons_succ])
          (refine take_on 2 (some 39) (v := ?_) rfl rfl (by kernel_rfl) (by kernel_rfl) (by kernel_rfl) (fun _ _ _ h => h) (by rfl) (by assumption) ?_ ?_; rotate_left; · (intro w hSw; have ac1 := hSw.2.cell 1; simp only [List.getElem?_toArray, List.getElem?_cons_zero, List.getElem?_cons_succ] at ac1; go_simp; (try with_reducible rfl)))
          (try simp only [Act.put, List.setIfInBounds_toArray, List.set_cons_zero, List.set_cons_succ])
          (refine take_on 4 (some 41) (v := ?_) rfl rfl (by kernel_rfl) (by kernel_rfl) (by kernel_rfl) (fun _ _ _ h => h) (by rfl) (by assumption) ?_ ?_; rotate_left; · (intro w hSw; skip; go_simp; (try with_reducible rfl)))
          (try simp only [Act.put, List.setIfInBounds_toArray, List.set_cons_zero, List.set_cons_succ])
          (refine take_on 5 (some 42) (v := ?_) rfl rfl (by kernel_rfl) (by kernel_rfl) (by kernel_rfl) (fun _ _ _ h => h) (by rfl) (by assumption) ?_ ?_; rotate_left; · (intro w hSw; skip; go_simp; (try with_reducible rfl)))
          (try simp only [Act.put, List.setIfInBounds_toArray, List.set_cons_zero, List.set_cons_succ])
          (refine take_on 6 (some 43) (v := ?_) rfl rfl (by kernel_rfl) (by kernel_rfl) (by kernel_rfl) (fun _ _ _ h => h) (by rfl) (by assumption) ?_ ?_; rotate_left; · (intro w hSw; obtain ⟨er0, er1, er2, er3, er4, er5, er6, er7, er8, er9, er10, er11, eq0, eq1, eq2, eq3, eq4, eq5, eq6, eq7, eq8, eq9, eq10, eq11⟩ := blk12 hSw.1; go_simp; (try with_reducible rfl)))
          (try simp only [Act.put, List.setIfInBounds_toArray, List.set_cons_zero, List.set_cons_succ])
          (refine take_on 7 (some 44) (v := ?_) rfl rfl (by kernel_rfl) (by kernel_rfl) (by kernel_rfl) (fun _ _ _ h => h) (by rfl) (by assumption) ?_ ?_; rotate_left; · (intro w hSw; skip; go_simp; (try with_reducible rfl)))
          (try simp only [Act.put, List.setIfInBounds_toArray, List.set_cons_zero, List.set_cons_succ])
          (refine take_on 8 (some 45) (v := ?_) rfl rfl (by kernel_rfl) (by kernel_rfl) (by kernel_rfl) (fun _ _ _ h => h) (by rfl) (by assumption) ?_ ?_; rotate_left; · (intro w hSw; skip; go_simp; (try with_reducible rfl)))
          (try simp only [Act.put, List.setIfInBounds_toArray, List.set_cons_zero, List.set_cons_succ])
          (refine take_on 9 (some 46) (v := ?_) rfl rfl (by kernel_rfl) (by kernel_rfl) (by kernel_rfl) (fun _ _ _ h => h) (by rfl) (by assumption) ?_ ?_; rotate_left; · (intro w hSw; obtain ⟨er0, er1, er2, er3, er4, er5, er6, er7, er8, er9, er10, er11, eq0, eq1, eq2, eq3, eq4, eq5, eq6, eq7, eq8, eq9, eq10, eq11⟩ := blk12 hSw.1; go_simp; (try with_reducible rfl)))
          (try simp only [Act.put, List.setIfInBounds_toArray, List.set_cons_zero, List.set_cons_succ])
          refine wpAnyH_ready (rs := [3]) (by kernel_rfl) (by simp) ?_; refine AllReadyH.cons (o := _) rfl (fun K hK => ?_) AllReadyH.nil
          go_simp
          (go_at_call 71; refine (hframe _).mono ?_; rintro e w9 ⟨rfl, k9⟩; have c9 : Chg [] w8 w9 := Chg.trans (Chg.drew (Chg.refl [] w8)) k9 (by simp); have hP9 := hP8.chg_ c9 (by simp); obtain ⟨p0_, p1_, p2_, p3_, p4_, p5_, p6_, f0_, f1_, f2_, f3_, f4_, f5_, f6_⟩ := blk7 hP9)
          refine hK.out _ _ (by (try dsimp only); exact ⟨hX8.chg_ c9 (by simp), hA8.chg_ c9 (by simp)⟩) (fun hHeld => ?_)
          clear hK K
          (try simp only [Act.put, List.setIfInBounds_toArray, List.set_cons_zero, List.set_cons_succ])
          refine wpAnyH_ready (rs := [10]) (by kernel_rfl) (by simp) ?_; refine AllReadyH.cons (o := _) rfl (fun K hK => ?_) AllReadyH.nil
          go_simp
          skip
          refine hK.out _ _ (by (try dsimp only); exact hHeld) (fun hHeld => ?_)
          clear hK K
          (try simp only [Act.put, List.setIfInBounds_toArray, List.set_cons_zero, List.set_cons_succ])
          refine wpAnyH_ready (rs := [11]) (by kernel_rfl) (by simp) ?_; refine AllReadyH.cons (o := _) rfl (fun K hK => ?_) AllReadyH.nil
          go_simp
          skip
          refine hK.out _ _ (by (try dsimp only); exact ⟨hHeld.1.far hne1 _, hHeld.2.far hne2 _⟩) (fun hHeld => ?_)
          clear hK K
          (try simp only [Act.put, List.setIfInBounds_toArray, List.set_cons_zero, List.set_cons_succ])
          refine wpAnyH_ready (rs := [12]) (by kernel_rfl) (by simp) ?_; refine AllReadyH.cons (o := _) rfl (fun K hK => ?_) AllReadyH.nil
          go_simp
          skip
          refine hK.out _ _ (by (try dsimp only); exact hHeld) (fun hHeld => ?_)
          clear hK K
          (try simp only [Act.put, List.setIfInBounds_toArray, List.set_cons_zero, List.set_cons_succ])
          refine wpAnyH_ready (rs := [13]) (by kernel_rfl) (by simp) ?_; refine AllReadyH.cons (o := _) rfl (fun K hK => ?_) AllReadyH.nil
          go_simp
          skip
          refine hK.out _ _ (by (try dsimp only); exact ⟨hHeld.1.far hne1 _, hHeld.2.far hne2 _⟩) (fun hHeld => ?_)
          clear hK K
          (try simp only [Act.put, List.setIfInBounds_toArray, List.set_cons_zero, List.set_cons_succ])
          refine wpAnyH_ready (rs := [14]) (by kernel_rfl) (by simp) ?_; refine AllReadyH.cons (o := _) rfl (fun K hK => ?_) AllReadyH.nil
          go_simp
          skip
          refine hK.out _ _ (by (try dsimp only); exact hHeld) (fun hHeld => ?_)
          clear hK K
          (try simp only [Act.put, List.setIfInBounds_toArray, List.set_cons_zero, List.set_cons_succ])
          refine wpAnyH_ready (rs := [15]) (by kernel_rfl) (by simp) ?_; refine AllReadyH.cons (o := _) rfl (fun K hK => ?_) AllReadyH.nil
          go_simp
          skip
          refine hK.out _ _ (by (try dsimp only); exact ⟨hHeld.1.far hne1 _, hHeld.2.far hne2 _⟩) (fun hHeld => ?_)
          clear hK K
          (try simp only [Act.put, List.setIfInBounds_toArray, List.set_cons_zero, List.set_cons_succ])
          refine wpAnyH_done (by kernel_rfl) ?_ _
          refine Only.normal ?_
          have hch := (((Chg.refl [pb] w9).setCell (p := ⟨pb, 1, none⟩) (by simp) (.int .i64 fv)).setCell (p := ⟨pb, 5, none⟩) (by simp) (.bool es)).setCell (p := ⟨pb, 6, none⟩) (by simp) (.bool ed)
          have hs := (hs8.t (Stp.new c9 (by omega))).t (Stp.of_chg hch (by have := c9.size; omega) (by intro i hi; simp at hi; subst hi; exact ⟨by omega, _, _, hP9, by decide, by decide⟩))
          have hPf := ((hP9.set_ 1 (.int .i64 fv)).set_ 5 (.bool es)).set_ 6 (.bool ed)
          simp only [List.setIfInBounds_toArray, List.set_cons_zero, List.set_cons_succ] at hPf
          have hrow9 := own_chg hrow8 c9 (by simp)
          have hrowf := own_chg hrow9 hch (fun g hg hi => by (obtain ⟨cs, hb⟩ := own_cells hrow9 g (by simp [hg]); simp at hi; subst hi; exact Blk.type_ne hb hP9 (by decide) rfl))
          have hcf := (hc8.trans c9 (by simp)).trans hch (by intro i hi hm; simp at hm; omega)
          have hRf := (hR8.chg_ c9 (by simp)).chg_ hch (by simp; omega)
          have hEf := (hE8.chg_ c9 (by simp)).chg_ hch (by simp; omega)
          have hAf := (hA8.chg_ c9 (by simp)).chg_ hch (by simpa using hne2)
          have hlof := Nat.le_trans (Nat.le_trans hlo8 c9.size) hch.size
          gi_wp2
          exact ⟨hs.1.from _, hmm ▸ hs.2, PathI.snoc HPD.out hok rfl (by unfold accP; rw [HLB.out]; simp only [if_true, HFV.out]; exact hPf) hrowf hRf hEf hAf hcf hlof⟩
      · go_simp
        (go_at_call 69; refine (hOf _).mono ?_; rintro e w5 ⟨rfl, k5⟩; have c5 : Chg [] W3 w5 := Chg.trans c3 k5 (by simp); have hP5 := hP3.chg_ c5 (by simp); clear p0_ p1_ p2_ p3_ p4_ p5_ p6_ f0_ f1_ f2_ f3_ f4_ f5_ f6_; obtain ⟨p0_, p1_, p2_, p3_, p4_, p5_, p6_, f0_, f1_, f2_, f3_, f4_, f5_, f6_⟩ := blk7 hP5)
        refine hK.out _ _ (by (try dsimp only); exact hX3.chg_ c5 (by simp)) (fun hHeld => ?_)
        clear hK K
        (try simp only [Act.put, List.setIfInBounds_toArray, List.set_cons_zero, List.set_cons_succ])
        refine wpAnyH_ready (rs := [1]) (by kernel_rfl) (by simp) ?_; refine AllReadyH.cons (o := _) rfl (fun K hK => ?_) AllReadyH.nil
        go_simp
        skip
        refine hK.out _ _ (by (try dsimp only); exact hHeld) (fun hHeld => ?_)
        clear hK K
        (try simp only [Act.put, List.setIfInBounds_toArray, List.set_cons_zero, List.set_cons_succ])
        refine wpAnyH_ready (rs := [5]) (by kernel_rfl) (by simp) ?_; refine AllReadyH.cons (o := _) rfl (fun K hK => ?_) AllReadyH.nil
        go_simp
        skip
        refine hK.out _ _ (by (try dsimp only); exact Blk.alloc hHeld _) (fun hHeld => ?_)
        clear hK K
        (try simp only [Act.put, List.setIfInBounds_toArray, List.set_cons_zero, List.set_cons_succ])
        refine wpAnyH_ready (rs := [6]) (by kernel_rfl) (by simp) ?_; refine AllReadyH.cons (o := _) rfl (fun K hK => ?_) AllReadyH.nil
        go_simp
        (go_at_call 68; refine (hM _ _ (Blk.new w5 30 _)).mono ?_; rintro e w6 ⟨rfl, k6⟩; have c6 : Chg [] W3 w6 := Chg.trans (Chg.alloc c5 (.cells #[.bool prw, .bool pru, .bool prx, .bool ew, .bool eu, .bool !en] 30)) k6 (by simp); have hP6 := hP3.chg_ c6 (by simp); clear p0_ p1_ p2_ p3_ p4_ p5_ p6_ f0_ f1_ f2_ f3_ f4_ f5_ f6_; obtain ⟨p0_, p1_, p2_, p3_, p4_, p5_, p6_, f0_, f1_, f2_, f3_, f4_, f5_, f6_⟩ := blk7 hP6)
        refine hK.out _ _ (by (try dsimp only); exact hX3.chg_ c6 (by simp)) (fun hHeld => ?_)
        clear hK K
        (try simp only [Act.put, List.setIfInBounds_toArray, List.set_cons_zero, List.set_cons_succ])
        refine wpAnyH_ready (rs := [7]) (by kernel_rfl) (by simp) ?_; refine AllReadyH.cons (o := _) rfl (fun K hK => ?_) AllReadyH.nil
        go_simp
        skip
        refine hK.out _ _ (by (try dsimp only); exact hHeld) (fun hHeld => ?_)
        clear hK K
        (try simp only [Act.put, List.setIfInBounds_toArray, List.set_cons_zero, List.set_cons_succ])
        refine wpAnyH_ready (rs := [8]) (by kernel_rfl) (by simp) ?_; refine AllReadyH.cons (o := _) rfl (fun K hK => ?_) AllReadyH.nil
        go_simp
        skip
        refine hK.out _ _ (by (try dsimp only); exact ((hHeld.far hne1 _).far hne1 _).far hne1 _) (fun hHeld => ?_)
        clear hK K
        (try simp only [Act.put, List.setIfInBounds_toArray, List.set_cons_zero, List.set_cons_succ])
        refine wpAnyH_done (by kernel_rfl) ?_ _
        refine Only.normal ?_
        have hch7 := (((Chg.refl [pb] w6).setCell (p := ⟨pb, 2, none⟩) (by simp) (.bool (prw && ew))).setCell (p := ⟨pb, 3, none⟩) (by simp) (.bool (pru && eu))).setCell (p := ⟨pb, 4, none⟩) (by simp) (.bool (prx && !en))
        have hs7 := (hs3.t (Stp.new c6 (by omega))).t (Stp.of_chg hch7 (by have := c6.size; omega) (by intro i hi; simp at hi; subst hi; exact ⟨by omega, _, _, hP6, by decide, by decide⟩))
        have hP7 := ((hP6.set_ 2 (.bool (prw && ew))).set_ 3 (.bool (pru && eu))).set_ 4 (.bool (prx && !en))
        simp only [List.setIfInBounds_toArray, List.set_cons_zero, List.set_cons_succ] at hP7
        have hX7 := (hX3.chg_ c6 (by simp)).chg_ hch7 (by simpa using hne1)
        have hA7 := (hA3.chg_ c6 (by simp)).chg_ hch7 (by simpa using hne2)
        have hR7 := (hR3.chg_ c6 (by simp)).chg_ hch7 (by simp; omega)
        have hE7 := (hE3.chg_ c6 (by simp)).chg_ hch7 (by simp; omega)
        have hrow6 := own_chg hrow3 c6 (by simp)
        have hrow7 := own_chg hrow6 hch7 (fun g hg hi => by (obtain ⟨cs, hb⟩ := own_cells hrow6 g (by simp [hg]); simp at hi; subst hi; exact Blk.type_ne hb hP6 (by decide) rfl))
        have hc7 := (hc3.trans c6 (by simp)).trans hch7 (by intro i hi hm; simp at hm; omega)
        have hlo7 := Nat.le_trans (Nat.le_trans hlo3 c6.size) hch7.size
        clear hrow6 hch7 hP6 c6 k6 hP5 c5 k5 p0_ p1_ p2_ p3_ p4_ p5_ p6_ f0_ f1_ f2_ f3_ f4_ f5_ f6_ hHeld hrow3 hP3 hX3 hA3 hR3 hE3 hs3 hc3 hlo3 c3 hM hOf
        generalize ((w6.setCell ⟨pb, 2, none⟩ (.bool (prw && ew))).setCell ⟨pb, 3, none⟩ (.bool (pru && eu))).setCell ⟨pb, 4, none⟩ (.bool (prx && !en)) = W7 at *
        obtain ⟨er0, er1, er2, er3, er4, er5, er6, er7, er8, er9, er10, er11, eq0, eq1, eq2, eq3, eq4, eq5, eq6, eq7, eq8, eq9, eq10, eq11⟩ := blk12 hX7
        gi_wp2
        (first | refine ⟨trivial, (fun hh => by cases hh), ?_⟩ | refine ⟨(fun hh => by cases hh), ?_⟩ | refine ⟨trivial, ?_⟩ | skip)
        refine (CallsIn.inRound l (callsIn_wide.2 (hlast _))).mono ?_; rintro e w8 ⟨rfl, k8⟩
        have hP8 := hP7.chg_ k8 (by simp); have hX8 := hX7.chg_ k8 (by simp); have hA8 := hA7.chg_ k8 (by simp); have hR8 := hR7.chg_ k8 (by simp); have hE8 := hE7.chg_ k8 (by simp)
        have hrow8 := own_chg hrow7 k8 (by simp)
        have hs8 := hs7.t (Stp.new k8 (by omega))
        have hc8 := hc7.trans k8 (by simp)
        have hlo8 := Nat.le_trans hlo7 k8.size
        clear hP7 hX7 hA7 hR7 hE7 hrow7 hs7 hc7 hlo7 k8 er0 er1 er2 er3 er4 er5 er6 er7 er8 er9 er10 er11 eq0 eq1 eq2 eq3 eq4 eq5 eq6 eq7 eq8 eq9 eq10 eq11
        cases tl with
        | false =>
          gi_wp2
          exact ⟨hs8.1.from _, hmm ▸ hs8.2, PathI.snoc HPD.out hok rfl (by unfold accP; rw [HLB.out]; exact hP8) hrow8 hR8 hE8 hA8 hc8 hlo8⟩
        | true =>
          gi_wp2
          refine wpIn_region_only (S := fun w' => Blk w' Bx 129 #[.int .i64 xl, .int .i64 xg, .int .i64 xi, .bool ep, .bool ew, .bool eu, .bool ea, .bool ed, .bool es, .bool en, .bool eb, .int .i64 ef] ∧ Blk w' m 68 #[.pointer (some ⟨q, 0, none⟩), .int .i64 page, .int .i64 kind, .bool user]) (by kernel_rfl) (by kernel_rfl) ?_ (fun hHeld => ?_)
          · exact ⟨hX8, hA8⟩
          (refine take_on 0 (some 37) (v := ?_) rfl rfl (by kernel_rfl) (by kernel_rfl) (by kernel_rfl) (fun _ _ _ h => h) (by rfl) (by assumption) ?_ ?_; rotate_left; · (intro w hSw; obtain ⟨er0, er1, er2, er3, er4, er5, er6, er7, er8, er9, er10, er11, eq0, eq1, eq2, eq3, eq4, eq5, eq6, eq7, eq8, eq9, eq10, eq11⟩ := blk12 hSw.1; go_simp; (try with_reducible rfl)))
          (try simp only [Act.put, List.setIfInBounds_toArray, List.set_cons_zero, List.set_cons_succ])
          (refine take_on 1 (some 38) (v := ?_) rfl rfl (by kernel_rfl) (by kernel_rfl) (by kernel_rfl) (fun _ _ _ h => h) (by rfl) (by assumption) ?_ ?_; rotate_left; · (intro w hSw; skip; go_simp; (try with_reducible rfl)))
          (try simp only [Act.put, List.setIfInBounds_toArray, List.set_cons_zero, List.set_cons_succ])
          (refine take_on 2 (some 39) (v := ?_) rfl rfl (by kernel_rfl) (by kernel_rfl) (by kernel_rfl) (fun _ _ _ h => h) (by rfl) (by assumption) ?_ ?_; rotate_left; · (intro w hSw; have ac1 := hSw.2.cell 1; simp only [List.getElem?_toArray, List.getElem?_cons_zero, List.getElem?_cons_succ] at ac1; go_simp; (try with_reducible rfl)))
          (try simp only [Act.put, List.setIfInBounds_toArray, List.set_cons_zero, List.set_cons_succ])
          (refine take_on 4 (some 41) (v := ?_) rfl rfl (by kernel_rfl) (by kernel_rfl) (by kernel_rfl) (fun _ _ _ h => h) (by rfl) (by assumption) ?_ ?_; rotate_left; · (intro w hSw; skip; go_simp; (try with_reducible rfl)))
          (try simp only [Act.put, List.setIfInBounds_toArray, List.set_cons_zero, List.set_cons_succ])
          (refine take_on 5 (some 42) (v := ?_) rfl rfl (by kernel_rfl) (by kernel_rfl) (by kernel_rfl) (fun _ _ _ h => h) (by rfl) (by assumption) ?_ ?_; rotate_left; · (intro w hSw; skip; go_simp; (try with_reducible rfl)))
          (try simp only [Act.put, List.setIfInBounds_toArray, List.set_cons_zero, List.set_cons_succ])
          (refine take_on 6 (some 43) (v := ?_) rfl rfl (by kernel_rfl) (by kernel_rfl) (by kernel_rfl) (fun _ _ _ h => h) (by rfl) (by assumption) ?_ ?_; rotate_left; · (intro w hSw; obtain ⟨er0, er1, er2, er3, er4, er5, er6, er7, er8, er9, er10, er11, eq0, eq1, eq2, eq3, eq4, eq5, eq6, eq7, eq8, eq9, eq10, eq11⟩ := blk12 hSw.1; go_simp; (try with_reducible rfl)))
          (try simp only [Act.put, List.setIfInBounds_toArray, List.set_cons_zero, List.set_cons_succ])
          (refine take_on 7 (some 44) (v := ?_) rfl rfl (by kernel_rfl) (by kernel_rfl) (by kernel_rfl) (fun _ _ _ h => h) (by rfl) (by assumption) ?_ ?_; rotate_left; · (intro w hSw; skip; go_simp; (try with_reducible rfl)))
          (try simp only [Act.put, List.setIfInBounds_toArray, List.set_cons_zero, List.set_cons_succ])
          (refine take_on 8 (some 45) (v := ?_) rfl rfl (by kernel_rfl) (by kernel_rfl) (by kernel_rfl) (fun _ _ _ h => h) (by rfl) (by assumption) ?_ ?_; rotate_left; · (intro w hSw; skip; go_simp; (try with_reducible rfl)))
          (try simp only [Act.put, List.setIfInBounds_toArray, List.set_cons_zero, List.set_cons_succ])
          (refine take_on 9 (some 46) (v := ?_) rfl rfl (by kernel_rfl) (by kernel_rfl) (by kernel_rfl) (fun _ _ _ h => h) (by rfl) (by assumption) ?_ ?_; rotate_left; · (intro w hSw; obtain ⟨er0, er1, er2, er3, er4, er5, er6, er7, er8, er9, er10, er11, eq0, eq1, eq2, eq3, eq4, eq5, eq6, eq7, eq8, eq9, eq10, eq11⟩ := blk12 hSw.1; go_simp; (try with_reducible rfl)))
          (try simp only [Act.put, List.setIfInBounds_toArray, List.set_cons_zero, List.set_cons_succ])
          refine wpAnyH_ready (rs := [3]) (by kernel_rfl) (by simp) ?_; refine AllReadyH.cons (o := _) rfl (fun K hK => ?_) AllReadyH.nil
          go_simp
          (go_at_call 71; refine (hframe _).mono ?_; rintro e w9 ⟨rfl, k9⟩; have c9 : Chg [] w8 w9 := Chg.trans (Chg.drew (Chg.refl [] w8)) k9 (by simp); have hP9 := hP8.chg_ c9 (by simp); obtain ⟨p0_, p1_, p2_, p3_, p4_, p5_, p6_, f0_, f1_, f2_, f3_, f4_, f5_, f6_⟩ := blk7 hP9)
          refine hK.out _ _ (by (try dsimp only); exact ⟨hX8.chg_ c9 (by simp), hA8.chg_ c9 (by simp)⟩) (fun hHeld => ?_)
          clear hK K
          (try simp only [Act.put, List.setIfInBounds_toArray, List.set_cons_zero, List.set_cons_succ])
          refine wpAnyH_ready (rs := [10]) (by kernel_rfl) (by simp) ?_; refine AllReadyH.cons (o := _) rfl (fun K hK => ?_) AllReadyH.nil
          go_simp
          skip
          refine hK.out _ _ (by (try dsimp only); exact hHeld) (fun hHeld => ?_)
          clear hK K
          (try simp only [Act.put, List.setIfInBounds_toArray, List.set_cons_zero, List.set_cons_succ])
          refine wpAnyH_ready (rs := [11]) (by kernel_rfl) (by simp) ?_; refine AllReadyH.cons (o := _) rfl (fun K hK => ?_) AllReadyH.nil
          go_simp
          skip
          refine hK.out _ _ (by (try dsimp only); exact ⟨hHeld.1.far hne1 _, hHeld.2.far hne2 _⟩) (fun hHeld => ?_)
          clear hK K
          (try simp only [Act.put, List.setIfInBounds_toArray, List.set_cons_zero, List.set_cons_succ])
          refine wpAnyH_ready (rs := [12]) (by kernel_rfl) (by simp) ?_; refine AllReadyH.cons (o := _) rfl (fun K hK => ?_) AllReadyH.nil
          go_simp
          skip
          refine hK.out _ _ (by (try dsimp only); exact hHeld) (fun hHeld => ?_)
          clear hK K
          (try simp only [Act.put, List.setIfInBounds_toArray, List.set_cons_zero, List.set_cons_succ])
          refine wpAnyH_ready (rs := [13]) (by kernel_rfl) (by simp) ?_; refine AllReadyH.cons (o := _) rfl (fun K hK => ?_) AllReadyH.nil
          go_simp
          skip
          refine hK.out _ _ (by (try dsimp only); exact ⟨hHeld.1.far hne1 _, hHeld.2.far hne2 _⟩) (fun hHeld => ?_)
          clear hK K
          (try simp only [Act.put, List.setIfInBounds_toArray, List.set_cons_zero, List.set_cons_succ])
          refine wpAnyH_ready (rs := [14]) (by kernel_rfl) (by simp) ?_; refine AllReadyH.cons (o := _) rfl (fun K hK => ?_) AllReadyH.nil
          go_simp
          skip
          refine hK.out _ _ (by (try dsimp only); exact hHeld) (fun hHeld => ?_)
          clear hK K
          (try simp only [Act.put, List.setIfInBounds_toArray, List.set_cons_zero, List.set_cons_succ])
          refine wpAnyH_ready (rs := [15]) (by kernel_rfl) (by simp) ?_; refine AllReadyH.cons (o := _) rfl (fun K hK => ?_) AllReadyH.nil
          go_simp
          skip
          refine hK.out _ _ (by (try dsimp only); exact ⟨hHeld.1.far hne1 _, hHeld.2.far hne2 _⟩) (fun hHeld => ?_)
          clear hK K
          (try simp only [Act.put, List.setIfInBounds_toArray, List.set_cons_zero, List.set_cons_succ])
          refine wpAnyH_done (by kernel_rfl) ?_ _
          refine Only.normal ?_
          have hch := (((Chg.refl [pb] w9).setCell (p := ⟨pb, 1, none⟩) (by simp) (.int .i64 fv)).setCell (p := ⟨pb, 5, none⟩) (by simp) (.bool es)).setCell (p := ⟨pb, 6, none⟩) (by simp) (.bool ed)
          have hs := (hs8.t (Stp.new c9 (by omega))).t (Stp.of_chg hch (by have := c9.size; omega) (by intro i hi; simp at hi; subst hi; exact ⟨by omega, _, _, hP9, by decide, by decide⟩))
          have hPf := ((hP9.set_ 1 (.int .i64 fv)).set_ 5 (.bool es)).set_ 6 (.bool ed)
          simp only [List.setIfInBounds_toArray, List.set_cons_zero, List.set_cons_succ] at hPf
          have hrow9 := own_chg hrow8 c9 (by simp)
          have hrowf := own_chg hrow9 hch (fun g hg hi => by (obtain ⟨cs, hb⟩ := own_cells hrow9 g (by simp [hg]); simp at hi; subst hi; exact Blk.type_ne hb hP9 (by decide) rfl))
          have hcf := (hc8.trans c9 (by simp)).trans hch (by intro i hi hm; simp at hm; omega)
          have hRf := (hR8.chg_ c9 (by simp)).chg_ hch (by simp; omega)
          have hEf := (hE8.chg_ c9 (by simp)).chg_ hch (by simp; omega)
          have hAf := (hA8.chg_ c9 (by simp)).chg_ hch (by simpa using hne2)
          have hlof := Nat.le_trans (Nat.le_trans hlo8 c9.size) hch.size
          gi_wp2
          exact ⟨hs.1.from _, hmm ▸ hs.2, PathI.snoc HPD.out hok rfl (by unfold accP; rw [HLB.out]; simp only [if_true, HFV.out]; exact hPf) hrowf hRf hEf hAf hcf hlof⟩
  case done =>
    rintro D xs W2 hD rfl hI2 hK
    obtain ⟨v, hPr, hrow⟩ := hI2.row
    have hres := run_ok (page := page) _ Pa.start hI2.ok
    have hlen := fold_len page (seqW (rdG n W L) page 3 root) Pa.start
    have HRES : Hid (pathP (rdG n W L) page root = .ok _) := Lib.hid hres
    have hR := hI2.hr
    have hE := hI2.he
    have hc := hI2.ch
    generalize (seqW (rdG n W L) page 3 root).foldl (accP page) Pa.start = P at *
    simp only [Pa.start, List.length_nil, Nat.zero_add] at hlen
    rw [← hlen] at hrow
    obtain ⟨A, c, rfl, _, _⟩ := own_form hrow
    clear hI2 hres hlen
    obtain ⟨p0_, p1_, p2_, p3_, p4_, p5_, p6_, f0_, f1_, f2_, f3_, f4_, f5_, f6_⟩ := blk7 hPr
    obtain ⟨z0_, z1_, z2_, z3_, z4_, z5_, z6_, y0_, y1_, y2_, y3_, y4_, y5_, y6_⟩ := blk7 hR
    have e0 := hE.cell 0
    have e1 := hE.frozen 0
    simp only [List.getElem?_toArray, List.getElem?_cons_zero] at e0
    have hlt1 := hR.lt; have hlt2 := hE.lt; have hlt3 := hPr.lt
    gi_wp2
    have hch : Chg [m + 1, m + 1 + 1] W2 W2 := Chg.refl _ _
    have hch7 := (chg7 (y0 := .slice A P.ats.length c) (y1 := .int .i64 P.g) (y2 := .bool P.r.w) (y3 := .bool P.r.u) (y4 := .bool P.r.x) (y5 := .bool P.large) (y6 := .bool P.dirty) hch (g := m + 1) (by simp)).setCell (p := ⟨m + 1 + 1, 0, none⟩) (by simp) .nilIface
    have hR7 := (set7 (y0 := .slice A P.ats.length c) (y1 := .int .i64 P.g) (y2 := .bool P.r.w) (y3 := .bool P.r.u) (y4 := .bool P.r.x) (y5 := .bool P.large) (y6 := .bool P.dirty) hR).far (p := ⟨m + 1 + 1, 0, none⟩) (by simp) .nilIface
    have hE7 := (far7 (g := m + 1) (y0 := .slice A P.ats.length c) (y1 := .int .i64 P.g) (y2 := .bool P.r.w) (y3 := .bool P.r.u) (y4 := .bool P.r.x) (y5 := .bool P.large) (y6 := .bool P.dirty) hE (by omega)).set_ 0 .nilIface
    have hK7 := (hch7.block D (Array.getElem?_eq_some_iff.1 hK).1 (by simp; omega)).trans hK
    have hc7 := hc.trans hch7 (by intro i hi hm; simp at hm; omega)
    have hrow7 := own_chg hrow hch7 (by
      intro g hg hm
      obtain ⟨cs, hb⟩ := own_cells hrow g (by simp [hg])
      simp at hm
      rcases hm with rfl | rfl
      · exact Blk.type_ne hb hR (by decide) rfl
      · exact Blk.type_ne hb hE (by decide) rfl)
    clear hch hch7 hrow hR hE hc hK p0_ p1_ p2_ p3_ p4_ p5_ p6_ f0_ f1_ f2_ f3_ f4_ f5_ f6_ z0_ z1_ z2_ z3_ z4_ z5_ z6_ y0_ y1_ y2_ y3_ y4_ y5_ y6_ e0 e1
    generalize ((((((((W2.setCell ⟨m + 1, 0, none⟩ (.slice A P.ats.length c)).setCell ⟨m + 1, 1, none⟩ (.int .i64 P.g)).setCell ⟨m + 1, 2, none⟩ (.bool P.r.w)).setCell ⟨m + 1, 3, none⟩ (.bool P.r.u)).setCell ⟨m + 1, 4, none⟩ (.bool P.r.x)).setCell ⟨m + 1, 5, none⟩ (.bool P.large)).setCell ⟨m + 1, 6, none⟩ (.bool P.dirty)).setCell ⟨m + 1 + 1, 0, none⟩ .nilIface) = W7 at *
    refine ⟨by simp, .inl ⟨_, _, rfl, run_takeDeferred hK7, ?_⟩⟩
    have hgr := grownBy_putObj' W7 D (.deferred none)
    have hrr : ∀ r, some D = some r → ∃ o : Obj, W7.heap[r]? = some o ∧ o.isCells = false := fun r e => by cases e; exact ⟨_, hK7, rfl⟩
    refine ⟨_, cell2_ret rfl (blk_kept hR7 hgr hrr) (blk_kept hE7 hgr hrr) rfl rfl Tryz.underlying32 rfl (by kernel_rfl) Tryz.underlying65 rfl, ?_⟩
    rw [HRES.out]
    exact ⟨A, c, rfl, own_kept hrow7 hgr hrr, chg_kept hc7 hml hgr (fun r e => by cases e; exact ⟨hD, _, hK7, rfl⟩)⟩
  case stop =>
    rintro D c pre W2 hD hpre ⟨rfl, hx⟩ hK
    obtain ⟨l, x, t, rfl, hok, herr, hE⟩ := hx.why
    obtain ⟨rest, hrest⟩ := hpre
    have hres : pathP (rdG n W L) page root = .error t := by
      unfold pathP; rw [← hrest, List.append_assoc]; exact run_err herr l rest _ hok
    have HRES := Lib.hid hres
    have hR := hx.hr
    have hc := hx.ch
    clear hx hrest hres
    gi_wp2
    refine ⟨by simp, .inl ⟨_, _, rfl, run_takeDeferred hK, ?_⟩⟩
    have hgr := grownBy_putObj' W2 D (.deferred none)
    have hrr : ∀ r, some D = some r → ∃ o : Obj, W2.heap[r]? = some o ∧ o.isCells = false := fun r e => by cases e; exact ⟨_, hK, rfl⟩
    refine ⟨_, cell2_ret rfl (blk_kept hR hgr hrr) (blk_kept hE hgr hrr) rfl rfl Tryz.underlying32 rfl (by kernel_rfl) Tryz.underlying65 rfl, ?_⟩
    rw [HRES.out]
    exact ⟨rfl, chg_kept hc hml hgr (fun r e => by cases e; exact ⟨hD, _, hK, rfl⟩)⟩

end Go.Proofs.YtdfmlodmaipnkaaGreatDoor
