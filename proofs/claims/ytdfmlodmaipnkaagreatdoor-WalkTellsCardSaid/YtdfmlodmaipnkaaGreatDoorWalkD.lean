/-
  The contract of package walk's iterator over the entries of a page's way.
-/
import Derived.Test.YtdfmlodmaipnkaaGreatDoorWalkC
import Derived.Test.YtdfmlodmaipnkaaGreatDoorRound
namespace Go.Proofs.YtdfmlodmaipnkaaGreatDoor
open Go.RowKit Go.Maps Go.Shelf

attribute [local go_sem] Oper.semAt_some

/-- what a round keeps: what lay below m, and all entries and all accesses -/
def KpE (m : Nat) (W W' : World) : Prop := Below m W W' ∧ ∀ (k : Nat) (cs : Array Value) (t : TypeId) (f : Nat × Nat), (t = 129 ∨ t = 68) → W.heap[k]? = some (Obj.cells cs t f) → W'.heap[k]? = some (Obj.cells cs t f)
theorem KpE.t {m : Nat} {A B C : World} (h : KpE m A B) (k : KpE m B C) : KpE m A C := ⟨h.1.trans k.1, fun i cs t f ht ho => k.2 i cs t f ht (h.2 i cs t f ht ho)⟩
theorem KpE.b {m : Nat} {w : World} (hn : m ≤ w.heap.size) (W : World) (l : Nat) (o o' : Obj) (hl : w.heap.size ≤ l) (h : W.heap[l]? = some o) (hc : o.isCells = false) (hw : o.isWalk = false) : KpE m W (W.putObj l o') :=
  ⟨belowK_b hn W l o o' hl h hc hw, fun i cs t f _ hi => by
    have hne : i ≠ l := fun e => by
      subst e
      rw [h] at hi; injection hi with hi; subst hi; cases hc
    exact ((grownBy_putObj' W l o').block i (Array.getElem?_eq_some_iff.1 hi).1 (fun e => hne (Option.some.inj e))).trans hi⟩
theorem KpE.blk {m : Nat} {W W' : World} (h : KpE m W W') {g : Nat} {t : TypeId} {cs : Array Value} (hb : Blk W g t cs) (ht : t = 129 ∨ t = 68) : Blk W' g t cs := h.2 g _ _ _ ht hb
theorem KpE.chg {m : Nat} {w W W' : World} (h : KpE m W W') (hc : Chg [] w W) (hm : m = w.heap.size) : Chg [] w W' := by
  subst hm; exact Chg.of_below (hc.below.trans h.1)
/-- a step of a round's body -/
def Stp (m : Nat) (W W' : World) : Prop := KeepsOthers W W' ∧ KpE m W W'
theorem Stp.t {m : Nat} {A B C : World} (h : Stp m A B) (k : Stp m B C) : Stp m A C := ⟨h.1.trans k.1, h.2.t k.2⟩
theorem Stp.of_chg {m : Nat} {T : List Nat} {W W' : World} (h : Chg T W W') (hz : m ≤ W.heap.size) (hT : ∀ i ∈ T, m ≤ i ∧ ∃ cs t, Blk W i t cs ∧ (t == 129) = false ∧ (t == 68) = false) : Stp m W W' :=
  ⟨⟨h.size, fun k o hk ho => by
      refine (h.block k (Array.getElem?_eq_some_iff.1 hk).1 fun hi => ?_).trans hk
      obtain ⟨_, cs, t, hb, _⟩ := hT k hi
      rw [show W.heap[k]? = _ from hb] at hk
      injection hk with hk; subst hk; cases ho⟩,
   ⟨h.os, h.tape, h.output, h.size, fun k hk => h.block k (Nat.lt_of_lt_of_le hk hz) fun hi => by have := (hT k hi).1; omega⟩,
   fun k cs t f ht ho => by
      refine (h.block k (Array.getElem?_eq_some_iff.1 ho).1 fun hi => ?_).trans ho
      obtain ⟨_, cs', t', hb, h1, h2⟩ := hT k hi
      rw [show W.heap[k]? = _ from hb] at ho
      injection ho with ho; injection ho with _ ho _
      subst ho
      rcases ht with rfl | rfl
      · simp at h1
      · simp at h2⟩
theorem Stp.new {m : Nat} {W W' : World} (h : Chg [] W W') (hz : m ≤ W.heap.size) : Stp m W W' := Stp.of_chg h hz (by simp)
theorem Stp.chg {m : Nat} {w W W' : World} (h : Stp m W W') (hc : Chg [] w W) (hm : m = w.heap.size) : Chg [] w W' := h.2.chg hc hm
def encE (kind : Int) (user : Bool) (x : It) : Array Value := #[.agg x.cs, errO kind user x.err]

theorem seq_len (rd : Int → Int → Option Nat) (page : Int) : ∀ (lv : Nat) (g : Int), (seqW rd page lv g).length ≤ lv
  | 0, _ => by simp [seqW]
  | lv + 1, g => by
    rw [seqW, List.length_cons]
    split
    · simp
    · have := seq_len rd page lv (stepW rd page g (lv + 1 : Nat)).e.f
      omega

set_option maxRecDepth 100000 in
set_option maxHeartbeats 4000000 in
theorem entries1_in (m l rb ab q : Nat) (S : List Nat) (p : Nat) (L : List Int) (h b n : Nat) (W : List Int) (page kind root : Int) (user : Bool) (w0 : World) (gu : GuIn w0 q S p L h b n W) (hW : WdW W) (J Jx : List It → World → Prop) (W1 : World)
    (hJ : AbidesFrom W1.heap.size J)
    (hY : ∀ pre x W2, J pre W2 → pre.length < (seqW (rdG n W L) page 3 root).length → YieldAt Fence.wide (m - 1) Tryz.prog l (encE kind user x) W2 fun e W' =>
      (e = .returned (.bool true) ∧ J (pre ++ [x]) W' ∧ KpE w0.heap.size W2 W') ∨ (e = .returned (.bool false) ∧ Jx (pre ++ [x]) W'))
    (hb1 : Chg [] w0 W1) (hr : W1.cell? ⟨rb, 0, none⟩ = some (.int .i64 root)) (ha : Blk W1 ab 68 (accV q page kind user)) (h0 : J [] W1) :
    CallsIn Fence.wide m Tryz.prog 81 #[.func (.yield l) #[] #[], .pointer (some ⟨rb, 0, none⟩), .pointer (some ⟨ab, 0, none⟩)] W1 fun e W' => (∃ v, e = .returned v) ∧
      ((∃ ys, ys = seqW (rdG n W L) page 3 root ∧ J ys W') ∨ (∃ pre, pre <+: seqW (rdG n W L) page 3 root ∧ Jx pre W')) := by
  refine callsIn_of_wp Tryz.func81 rfl trivial ?_ rfl
  simp only [Tryz.ntmps81, List.size_toArray, List.length_cons, List.length_nil, Nat.reduceAdd, Nat.reduceSub, Array.replicate_succ, Array.replicate_zero, List.push_toArray, List.append_toArray, List.nil_append, List.cons_append]
  have hread := fun (g lv : Int) (wr : World) (hc : Chg [] w0 wr) (hl : 1 ≤ lv ∧ lv ≤ 3) => read_acc q S p L h b n W page kind user g lv wr (gu.self hc) hW hl
  have hseq := fun lv g => seqW.eq_2 (rdG n W L) page g lv
  have h00 := hseq
  clear h00
  obtain ⟨T, hT⟩ : ∃ T, T = seqW (rdG n W L) page 3 root := ⟨_, rfl⟩
  have hz := fun g => seqW.eq_1 (rdG n W L) page g
  rw [← hT] at hY ⊢
  unfold accV at ha hread
  gi_wp2
  gi_loopw [4, 5] (fun gs ls wr => ∃ (lv : Nat) (g : Int) (pre : List It), lv ≤ 3 ∧ gs = .int .i64 g ∧ ls = .int .i64 lv ∧ pre ++ seqW (rdG n W L) page lv g = T ∧ Chg [] w0 wr ∧ Blk wr ab 68 #[.pointer (some ⟨q, 0, none⟩), .int .i64 page, .int .i64 kind, .bool user] ∧ J pre wr ∧ W1.heap.size ≤ wr.heap.size) (fun _ ls _ => (intOf ls).toNat)
  case atStart => exact ⟨3, root, [], by omega, rfl, rfl, by rw [hT]; rfl, hb1, ha, h0, Nat.le_refl _⟩
  case round =>
    obtain ⟨lv, g, pre, hlv, rfl, rfl, hpre, hc, hak, hJs, hsz⟩ := hrel
    clear hb1 ha h0 hr
    cases lv with
    | zero =>
      rw [hz, List.append_nil] at hpre
      clear hread hseq hz
      gi_wp2
      go_end0
      exact ⟨⟨_, rfl⟩, .inl ⟨pre, hpre, hJs⟩⟩
    | succ lv =>
      rw [hseq] at hpre
      clear hseq hz
      have hr1 := hread g ((lv + 1 : Nat) : Int) wr hc (by omega)
      generalize stepW (rdG n W L) page g ((lv + 1 : Nat) : Int) = x at *
      have hkk : ((lv + 1 : Nat) : Int) = (lv : Int) + 1 := by omega
      generalize ((lv + 1 : Nat) : Int) = k at *
      have hk1 : 1 ≤ k := by omega
      have hk3 : k ≤ 3 := by omega
      have hkd : decide (1 ≤ k) = true := by simpa using hk1
      have hke : decide (k ≥ 1) = true := by simpa using hk1
      have HK := Lib.hid hkk
      clear hkk
      have a0 := hak.cell 0; have a1 := hak.cell 1; have a2 := hak.cell 2; have a3 := hak.cell 3
      simp only [List.getElem?_toArray, List.getElem?_cons_zero, List.getElem?_cons_succ] at a0 a1 a2 a3
      have hlen : pre.length < T.length := by rw [← hpre]; simp
      have hLast := fun w0 => last_any x w0
      obtain ⟨xl, xg, xi, ⟨ep, ew, eu, ea, ed, es, en, eb, ef⟩, er⟩ := x
      have hYx := hY pre ⟨xl, xg, xi, ⟨ep, ew, eu, ea, ed, es, en, eb, ef⟩, er⟩
      simp only [It.cs, encE] at hr1 hLast hYx hpre
      generalize hlb : It.last ⟨xl, xg, xi, ⟨ep, ew, eu, ea, ed, es, en, eb, ef⟩, er⟩ = tl at *
      have HPRE := Lib.hid hpre
      clear hpre hY hread hlb hT
      gi_wp2
      (first | refine ⟨trivial, (fun hh => by cases hh), ?_⟩ | refine ⟨(fun hh => by cases hh), ?_⟩ | skip)
      refine (callsIn_wide.2 hr1).mono ?_; rintro e w3 ⟨rfl, hc3⟩
      clear a0 a1 a2 a3
      obtain ⟨fn, tmps, assign, body, hy, hR⟩ := hYx (w3.alloc (.cells #[.int .i64 xl, .int .i64 xg, .int .i64 xi, .bool ep, .bool ew, .bool eu, .bool ea, .bool ed, .bool es, .bool en, .bool eb, .int .i64 ef] 129)) (hJ _ _ _ none (hJ _ _ _ none hJs (Cells.grown hc3) (fun r e => by cases e)) (World.grownBy_alloc _ _ none) (fun r e => by cases e)) hlen
      gi_wp2
      (first | refine ⟨trivial, (fun hh => by cases hh), ?_⟩ | refine ⟨(fun hh => by cases hh), ?_⟩ | skip)
      refine hR.mono ?_
      have hE4 := Blk.new w3 129 #[.int .i64 xl, .int .i64 xg, .int .i64 xi, .bool ep, .bool ew, .bool eu, .bool ea, .bool ed, .bool es, .bool en, .bool eb, .int .i64 ef]
      have hA4 := (hak.chg_ hc3 (by simp)).alloc (.cells #[.int .i64 xl, .int .i64 xg, .int .i64 xi, .bool ep, .bool ew, .bool eu, .bool ea, .bool ed, .bool es, .bool en, .bool eb, .int .i64 ef] 129)
      have hc4 := (hc.trans hc3 (by simp)).alloc (.cells #[.int .i64 xl, .int .i64 xg, .int .i64 xi, .bool ep, .bool ew, .bool eu, .bool ea, .bool ed, .bool es, .bool en, .bool eb, .int .i64 ef] 129)
      have hsz4 : W1.heap.size ≤ (w3.alloc (.cells #[.int .i64 xl, .int .i64 xg, .int .i64 xi, .bool ep, .bool ew, .bool eu, .bool ea, .bool ed, .bool es, .bool en, .bool eb, .int .i64 ef] 129)).heap.size := by rw [World.size_alloc]; have := hc3.size; omega
      clear hc3 hR hy hYx hJs hak
      generalize w3.alloc (.cells #[.int .i64 xl, .int .i64 xg, .int .i64 xi, .bool ep, .bool ew, .bool eu, .bool ea, .bool ed, .bool es, .bool en, .bool eb, .int .i64 ef] 129) = w4 at *
      generalize w3.heap.size = ge at *
      rintro e W5 (⟨rfl, hJ5, hk5⟩ | ⟨rfl, hJx5⟩)
      · have hE5 := hk5.blk hE4 (.inl rfl)
        have hA5 := hk5.blk hA4 (.inr rfl)
        have hc5 := hk5.chg hc4 rfl
        have hsz5 : W1.heap.size ≤ W5.heap.size := Nat.le_trans hsz4 hk5.1.size
        clear hE4 hA4 hc4 hk5 hsz4
        obtain ⟨er0, er1, er2, er3, er4, er5, er6, er7, er8, er9, er10, er11, eq0, eq1, eq2, eq3, eq4, eq5, eq6, eq7, eq8, eq9, eq10, eq11⟩ := blk12 hE5
        cases er with
        | some t =>
          simp only [errO, stopV]
          gi_wp2
          refine ⟨trivial, ?_⟩
          gi_wp2
          refine bodyPost_ret (results_none rfl _ _ _) rfl ?_
          exact ⟨⟨_, rfl⟩, .inl ⟨_, by have := HPRE.out; simpa using this, hJ5⟩⟩
        | none =>
          simp only [errO]
          cases tl with
          | true =>
            gi_wp2
            (first | refine ⟨trivial, (fun hh => by cases hh), ?_⟩ | refine ⟨(fun hh => by cases hh), ?_⟩ | skip)
            refine (callsIn_wide.2 (hLast _)).mono ?_; rintro e w6 ⟨rfl, hc6⟩
            gi_wp2
            refine bodyPost_ret (results_none rfl _ _ _) rfl ?_
            exact ⟨⟨_, rfl⟩, .inl ⟨_, by have := HPRE.out; simpa using this, hJ _ _ _ none hJ5 (Cells.grown hc6) (fun r e => by cases e)⟩⟩
          | false =>
            gi_wp2
            (first | refine ⟨trivial, (fun hh => by cases hh), ?_⟩ | refine ⟨(fun hh => by cases hh), ?_⟩ | skip)
            refine (callsIn_wide.2 (hLast _)).mono ?_; rintro e w6 ⟨rfl, hc6⟩
            have hE6 := hE5.chg_ hc6 (by simp)
            clear er0 er1 er2 er3 er4 er5 er6 er7 er8 er9 er10 er11 eq0 eq1 eq2 eq3 eq4 eq5 eq6 eq7 eq8 eq9 eq10 eq11
            obtain ⟨er0, er1, er2, er3, er4, er5, er6, er7, er8, er9, er10, er11, eq0, eq1, eq2, eq3, eq4, eq5, eq6, eq7, eq8, eq9, eq10, eq11⟩ := blk12 hE6
            gi_wp2
            go_roundw
            case rel => exact ⟨lv, ef, pre ++ [⟨xl, xg, xi, ⟨ep, ew, eu, ea, ed, es, en, eb, ef⟩, none⟩], by have := HK.out; omega, rfl, by have := HK.out; go_num, by have := HPRE.out; simpa using this, hc5.trans hc6 (by simp), hA5.chg_ hc6 (by simp), hJ _ _ _ none hJ5 (Cells.grown hc6) (fun r e => by cases e), by have := hc6.size; omega⟩
            case measure => have := HK.out; simp [intOf]; omega
      · gi_wp2
        refine ⟨trivial, ?_⟩
        gi_wp2
        refine bodyPost_ret (results_none rfl _ _ _) rfl ?_
        exact ⟨⟨_, rfl⟩, .inr ⟨_, by rw [← HPRE.out]; exact ⟨_, by rw [List.append_assoc]; rfl⟩, hJx5⟩⟩

/-- the iterator over a page's entries, as a value that is ranged over -/
theorem entries_stops (m rb ab q : Nat) (S : List Nat) (p : Nat) (L : List Int) (h b n : Nat) (W : List Int) (page kind root : Int) (user : Bool) (w0 w : World) (gu : GuIn w0 q S p L h b n W) (hW : WdW W)
    (hb1 : Chg [] w0 w) (hrl : rb < w.heap.size) (hr : w.cell? ⟨rb, 0, none⟩ = some (.int .i64 root)) (ha : Blk w ab 68 (accV q page kind user)) :
    SeqStopsK Fence.wide m Tryz.prog 81 #[.pointer (some ⟨rb, 0, none⟩), .pointer (some ⟨ab, 0, none⟩)] (encE kind user) (KpE w0.heap.size) (fun ys => ys = seqW (rdG n W L) page 3 root) (fun pre => pre <+: seqW (rdG n W L) page 3 root) (seqW (rdG n W L) page 3 root).length w :=
  fun l J Jx W1 hW1 hJ _ hY h0 =>
    have hc := Chg.of_below hW1
    entries1_in m l rb ab q S p L h b n W page kind root user w0 gu hW J Jx W1 hJ hY (hb1.trans hc (by simp)) ((hc.cell (p := ⟨rb, 0, none⟩) hrl (by simp)).trans hr) (ha.chg_ hc (by simp)) h0

end Go.Proofs.YtdfmlodmaipnkaaGreatDoor
