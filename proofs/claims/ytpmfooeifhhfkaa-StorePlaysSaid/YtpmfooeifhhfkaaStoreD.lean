/-
  The contract of package store's iterator over all slots.
-/
import Derived.Test.YtpmfooeifhhfkaaStoreC
import Derived.WalkMore
namespace Go.Proofs.Ytpmfooeifhhfkaa
open Go.RowKit Go.Maps Go.Shelf

attribute [local go_sem] Oper.semAt_some

/-- a body that holds a label, and no goto -/
theorem wpIn_scope_label {n l : Nat} {P : Program} {Q : Exit → Act → World → Prop} {a : Act} {w : World} {c : Code} (h : c.wpIn Fence.wide n P (Exit.noGoto Q) a w) : (Code.scope ((Code.label l).seq c)).wpIn Fence.wide n P Q a w :=
  wpIn_wide.2 (wp_scope_straight (wpIn_wide.1 (wpIn_seq (wpIn_label (by simpa [Exit.then] using h)))))

/-- what a round keeps: what lay below m, and all cells that hold a pointer to a store -/
def KpS (m : Nat) (W W' : World) : Prop := Below m W W' ∧ ∀ (k : Nat) (cs : Array Value) (t : TypeId) (f : Nat × Nat), t = 30 → W.heap[k]? = some (Obj.cells cs t f) → W'.heap[k]? = some (Obj.cells cs t f)
theorem KpS.t {m : Nat} {A B C : World} (h : KpS m A B) (k : KpS m B C) : KpS m A C := ⟨h.1.trans k.1, fun i cs t f ht ho => k.2 i cs t f ht (h.2 i cs t f ht ho)⟩
theorem KpS.b {m : Nat} {w : World} (hn : m ≤ w.heap.size) (W : World) (l : Nat) (o o' : Obj) (hl : w.heap.size ≤ l) (h : W.heap[l]? = some o) (hc : o.isCells = false) (hw : o.isWalk = false) : KpS m W (W.putObj l o') :=
  ⟨belowK_b hn W l o o' hl h hc hw, fun i cs t f _ hi => by
    have hne : i ≠ l := fun e => by
      subst e
      rw [h] at hi; injection hi with hi; subst hi; cases hc
    exact ((grownBy_putObj' W l o').block i (Array.getElem?_eq_some_iff.1 hi).1 (fun e => hne (Option.some.inj e))).trans hi⟩
theorem KpS.blk {m : Nat} {W W' : World} (h : KpS m W W') {g : Nat} {cs : Array Value} (hb : Blk W g 30 cs) : Blk W' g 30 cs := h.2 g _ _ _ rfl hb
theorem KpS.chg {m : Nat} {w W W' : World} (h : KpS m W W') (hc : Chg [] w W) (hm : m = w.heap.size) : Chg [] w W' := by
  subst hm; exact Chg.of_below (hc.below.trans h.1)
theorem KpS.refl (m : Nat) (W : World) : KpS m W W := ⟨Below.refl _ _, fun _ _ _ _ _ h => h⟩
/-- a step of a round's body -/
def StpS (m : Nat) (W W' : World) : Prop := KeepsOthers W W' ∧ KpS m W W'
theorem StpS.t {m : Nat} {A B C : World} (h : StpS m A B) (k : StpS m B C) : StpS m A C := ⟨h.1.trans k.1, h.2.t k.2⟩
theorem StpS.of_chg {m : Nat} {T : List Nat} {W W' : World} (h : Chg T W W') (hz : m ≤ W.heap.size) (hT : ∀ i ∈ T, m ≤ i ∧ ∃ cs t, Blk W i t cs ∧ (t == 30) = false) : StpS m W W' :=
  ⟨⟨h.size, fun k o hk ho => by
      refine (h.block k (Array.getElem?_eq_some_iff.1 hk).1 fun hi => ?_).trans hk
      obtain ⟨_, cs, t, hb, _⟩ := hT k hi
      rw [show W.heap[k]? = _ from hb] at hk
      injection hk with hk; subst hk; cases ho⟩,
   ⟨h.os, h.tape, h.output, h.size, fun k hk => h.block k (Nat.lt_of_lt_of_le hk hz) fun hi => by have := (hT k hi).1; omega⟩,
   fun k cs t f ht ho => by
      refine (h.block k (Array.getElem?_eq_some_iff.1 ho).1 fun hi => ?_).trans ho
      obtain ⟨_, cs', t', hb, h1⟩ := hT k hi
      rw [show W.heap[k]? = _ from hb] at ho
      injection ho with ho; injection ho with _ ho _
      subst ho
      rw [ht] at h1; simp at h1⟩
theorem StpS.new {m : Nat} {W W' : World} (h : Chg [] W W') (hz : m ≤ W.heap.size) : StpS m W W' := StpS.of_chg h hz (by simp)

/-- all slots of N pages, in order -/
abbrev Ix8 (N : Nat) := Fin (8 * N)
def allI (N : Nat) : List (Ix8 N) := List.finRange (8 * N)
/-- a slot, as it is told -/
def encI {N : Nat} (B : List Nat) (x : Ix8 N) : Array Value := #[.pointer (some ⟨B.getD (x.val / 8) 0, 0, none⟩), .int .i64 ((x.val % 8 : Nat) : Int)]
theorem allI_take {N k : Nat} (h : k < 8 * N) : (allI N).take (k + 1) = (allI N).take k ++ [⟨k, h⟩] := by
  unfold allI
  rw [List.take_add_one, List.getElem?_eq_getElem (by simpa using h)]; simp
theorem allI_full (N : Nat) : (allI N).take (8 * N) = allI N := by unfold allI; exact List.take_of_length_le (by simp)

set_option maxRecDepth 100000 in
set_option maxHeartbeats 4000000 in
theorem slots1_in (d l bb : Nat) {q hp hb n a m fp mp : Nat} {s : Sr} {FS B : List Nat} {v : Value} (w0 : World) (h : StX w0 q hp hb n a m s fp mp FS v B) (J Jx : List (Ix8 s.L.length) → World → Prop) (W1 : World)
    (hY : ∀ pre x W2, J pre W2 → pre.length < 8 * s.L.length → YieldAt Fence.wide (d - 1) Try.prog l (encI B x) W2 fun e W' =>
      (e = .returned (.bool true) ∧ J (pre ++ [x]) W' ∧ KpS w0.heap.size W2 W') ∨ (e = .returned (.bool false) ∧ Jx (pre ++ [x]) W'))
    (hb1 : Chg [] w0 W1) (hbb : Blk W1 bb 30 #[.pointer (some ⟨q, 0, none⟩)]) (h0 : J [] W1) :
    CallsIn Fence.wide d Try.prog 80 #[.func (.yield l) #[] #[], .pointer (some ⟨bb, 0, none⟩)] W1 fun e W' => (∃ v, e = .returned v) ∧
      ((∃ ys, ys = allI s.L.length ∧ J ys W') ∨ (∃ pre, pre <+: allI s.L.length ∧ Jx pre W')) := by
  refine callsIn_of_wp Try.func80 rfl trivial ?_ rfl
  simp only [Try.ntmps80, List.size_toArray, List.length_cons, List.length_nil, Nat.reduceAdd, Nat.reduceSub, Array.replicate_succ, Array.replicate_zero, List.push_toArray, List.append_toArray, List.nil_append, List.cons_append]
  obtain ⟨A, c, rfl⟩ := h.od.form
  obtain ⟨c0, c1, c2, c3⟩ := (h.new hb1).c4
  have b0 := hbb.cell 0
  simp only [List.getElem?_toArray, List.getElem?_cons_zero] at b0
  rw [List.length_map] at c3
  gi_wp2
  refine wpIn_scope_label ?_
  gi_wp2
  clear c0 c1 c2 c3 b0
  have hbl := h.bl
  gi_loopw [11] (fun s11 wr => ∃ j : Nat, j ≤ s.L.length ∧ s11 = .int .i64 j ∧ Chg [] w0 wr ∧ Blk wr bb 30 #[.pointer (some ⟨q, 0, none⟩)] ∧ J ((allI s.L.length).take (8 * j)) wr ∧ W1.heap.size ≤ wr.heap.size) (fun s11 _ => s.L.length - (intOf s11).toNat)
  case atStart => exact ⟨0, Nat.zero_le _, rfl, hb1, hbb, by simpa using h0, Nat.le_refl _⟩
  case round =>
    obtain ⟨j, hj, rfl, hc, hbk, hJj, hsz⟩ := hrel
    clear hb1 hbb h0
    by_cases hlt : j < s.L.length
    · have hltz : (j : Int) < (s.L.length : Int) := by omega
      obtain ⟨g, c', hgc, hle1, hle2⟩ := h.od.pos_ (by rw [List.length_map]; omega)
      rw [List.length_map] at hle1
      injection hgc with hA _ _
      subst hA
      have hp : s.L[j]? = some (s.L[j]'hlt) := List.getElem?_eq_getElem hlt
      have hbj : B[j]? = some (B[j]'(by omega)) := List.getElem?_eq_getElem (by omega)
      have hod := (h.od.chg hc (by simp)).cell j (by rw [List.length_map]; exact hlt)
      have hfe : (s.L.map Pg.f).getD j 0 = (s.L[j]'hlt).f := by simp [List.getD_eq_getElem?_getD, hlt]
      rw [hfe] at hod
      have hfr := h.ge _ (List.getElem_mem hlt)
      have hlk := fun W (y : Chg [] w0 W) => (h.new y).look (s.L[j]'hlt).f (by have := h.hm.le; omega)
      rw [blkF_at h.nd hp hbj] at hlk
      have hBj : B.getD j 0 = B[j]'(by omega) := by simp [List.getD_eq_getElem?_getD, show j < B.length by omega]
      generalize B[j]'(by omega) = b at *
      generalize (s.L[j]'hlt).f = f at *
      unfold ptrO at hlk
      clear hfe hp hbj
      gi_wp2
      gi_loopw [15] (fun s15 wr2 => ∃ k : Nat, k ≤ 8 ∧ s15 = .int .i64 k ∧ Chg [] w0 wr2 ∧ Blk wr2 bb 30 #[.pointer (some ⟨q, 0, none⟩)] ∧ J ((allI s.L.length).take (8 * j + k)) wr2 ∧ W1.heap.size ≤ wr2.heap.size) (fun s15 _ => 8 - (intOf s15).toNat)
      case atStart => exact ⟨0, by omega, rfl, hc, hbk, hJj, hsz⟩
      case round =>
        obtain ⟨k, hk, rfl, hc2, hbk2, hJk, hsz2⟩ := hrel
        clear hc hbk hJj hsz hod
        by_cases hk8 : k < 8
        · have hkz : (k : Int) < 8 := by omega
          have hix : 8 * j + k < 8 * s.L.length := by omega
          have hY1 := hY ((allI s.L.length).take (8 * j + k)) ⟨8 * j + k, hix⟩
          have hlen : ((allI s.L.length).take (8 * j + k)).length < 8 * s.L.length := by rw [List.length_take]; unfold allI; rw [List.length_finRange]; omega
          have hen : encI B (⟨8 * j + k, hix⟩ : Ix8 s.L.length) = #[.pointer (some ⟨b, 0, none⟩), .int .i64 (k : Int)] := by
            unfold encI
            rw [show (8 * j + k) / 8 = j by omega, show (8 * j + k) % 8 = k by omega, hBj]
          rw [hen, ← allI_take hix] at hY1
          obtain ⟨c0, c1, c2, c3⟩ := (h.new hc2).c4
          have b0 := hbk2.cell 0
          simp only [List.getElem?_toArray, List.getElem?_cons_zero] at b0
          have hl := hlk wr hc2
          obtain ⟨fn, tmps, assign, body, hy, hR⟩ := hY1 wr hJk hlen
          clear hY hlk hY1 hen hlen
          gi_wp2
          (first | refine ⟨trivial, (fun hh => by cases hh), ?_⟩ | refine ⟨(fun hh => by cases hh), ?_⟩ | refine ⟨trivial, ?_⟩ | skip)
          refine hR.mono ?_; rintro e W5 (⟨rfl, hJ5, hk5⟩ | ⟨rfl, hJx5⟩)
          · clear hR hy c0 c1 c2 c3 b0 hl
            gi_wp2
            go_roundw
            case rel => exact ⟨k + 1, by omega, by go_num, hk5.chg hc2 rfl, hk5.blk hbk2, hJ5, Nat.le_trans hsz2 hk5.1.size⟩
            case measure => simp [intOf]; omega
          · clear hR hy c0 c1 c2 c3 b0 hl
            gi_wp2
            rw [Exit.noGoto_normal]
            go_end0
            exact ⟨⟨_, rfl⟩, .inr ⟨_, List.take_prefix _ _, hJx5⟩⟩
        · obtain rfl : k = 8 := by omega
          have hkz : ¬ (8 : Int) < 8 := by omega
          clear hY hlk
          gi_wp2
          go_roundw
          case rel => exact ⟨_, _, _, ⟨j + 1, by omega, rfl, hJk⟩, rfl, rfl, by go_num⟩
          case measure => simp [intOf]; omega
    · obtain rfl : j = s.L.length := by omega
      have hltz : ¬ (s.L.length : Int) < (s.L.length : Int) := by omega
      clear hY
      rw [allI_full] at hJj
      gi_wp2
      go_end0
      exact ⟨⟨_, rfl⟩, .inl ⟨_, rfl, hJj⟩⟩

/-- all slots, as a value that is ranged over -/
theorem slots_stops (d bb : Nat) {q hp hb n a m fp mp : Nat} {s : Sr} {FS B : List Nat} {v : Value} (w0 w : World) (h : StX w0 q hp hb n a m s fp mp FS v B) (hb1 : Chg [] w0 w) (hbb : Blk w bb 30 #[.pointer (some ⟨q, 0, none⟩)]) :
    SeqStopsK Fence.wide d Try.prog 80 #[.pointer (some ⟨bb, 0, none⟩)] (encI B) (KpS w0.heap.size) (fun ys => ys = allI s.L.length) (fun pre => pre <+: allI s.L.length) (8 * s.L.length) w :=
  fun l J Jx W1 hW1 _ _ hY h0 =>
    have hc := Chg.of_below hW1
    slots1_in d l bb w0 h J Jx W1 hY (hb1.trans hc (by simp)) (hbb.chg_ hc (by simp)) h0

set_option maxHeartbeats 400000 in
theorem slots_any (q : Nat) (w : World) :
    Calls Try.prog 55 #[.pointer (some ⟨q, 0, none⟩)] w fun e w' => e = .returned (.func (.func 80) #[] #[.pointer (some ⟨w.heap.size, 0, none⟩)]) ∧ w' = w.alloc (.cells #[.pointer (some ⟨q, 0, none⟩)] 30) := by
  have hmf : ∀ (fn : Fn) (first cap : Array Value) (w : World), (Instr.makeFunc fn first cap).run Try.prog w = .ok (.func fn first cap) w := fun _ _ _ _ => rfl
  go_enter Try.func55, Try.ntmps55
  go_wp2
  go_ret
  exact ⟨rfl, rfl⟩

end Go.Proofs.Ytpmfooeifhhfkaa
