/-
  FreeA, FreeB, FreeC, Refree in one text.
-/
import Derived.Test.YtkggkdjhecagnaaG0
import Derived.Test.YtkggkdjhecagnaaProg
namespace Go.Proofs.Ytkggkdjhecagnaa
open Go.RowKit Go.Maps

/-- the k numbers from x on, the least one last -/
def dnk (x : Nat) : Nat → List Int
  | 0 => []
  | k + 1 => ((x : Int) + k) :: dnk x k
theorem dnk_len (x : Nat) : ∀ k, (dnk x k).length = k
  | 0 => rfl
  | k + 1 => by rw [dnk, List.length_cons, dnk_len x k]
theorem dnk_snoc (x : Nat) : ∀ k, dnk x (k + 1) = dnk (x + 1) k ++ [(x : Int)]
  | 0 => by simp [dnk]
  | k + 1 => by
    rw [dnk, dnk_snoc x k, dnk]
    simp only [List.cons_append, List.cons.injEq, and_true]; omega
theorem mem_dnk (x : Nat) (f : Int) : ∀ k, f ∈ dnk x k ↔ (x : Int) ≤ f ∧ f < x + k
  | 0 => by simp only [dnk, List.not_mem_nil, false_iff]; omega
  | k + 1 => by
    rw [dnk, List.mem_cons, mem_dnk x f k]; omega

/-- is f taken? -/
def takenB (a x : Nat) (back : List Int) (f : Int) : Bool := decide ((a : Int) ≤ f ∧ f < x) && !back.contains f

/-- p is a list of free frames: its struct is block p, its map block m, those that were given back are v -/
structure FIn (w : World) (p m a n x : Nat) (v : Value) (back : List Int) : Prop where
  st : Blk w p 65 #[.int .i64 a, .int .i64 x, .int .i64 (a + n), v, .map (some m)]
  bk : OwnI w 3 .i64 v back
  mp : SetM Try.prog 3 w m (x - a - back.length) (takenB a x back)
  ax : a + back.length ≤ x
  xn : x ≤ a + n
  le : a + n ≤ 256
  mem : ∀ f ∈ back, (a : Int) ≤ f ∧ f < x
  nd : back.Nodup

section
variable {w w' : World} {p m a n x : Nat} {v : Value} {back : List Int}
theorem FIn.ne1 (h : FIn w p m a n x v back) : m ≠ p := h.mp.blk_ne h.st
theorem FIn.ne2 (h : FIn w p m a n x v back) : ∀ g ∈ v.ownBlock.toList, g ≠ p := fun g hg => by
  obtain ⟨cur, hb⟩ := h.bk.blk hg
  exact hb.type_ne h.st (by decide)
theorem FIn.ne3 (h : FIn w p m a n x v back) : ∀ g ∈ v.ownBlock.toList, g ≠ m := fun g hg => by
  obtain ⟨cur, hb⟩ := h.bk.blk hg
  exact (h.mp.blk_ne hb).symm
theorem FIn.chg {T : List Nat} (h : FIn w p m a n x v back) (hc : Chg T w w') (hp : p ∉ T) (hm : m ∉ T) (hg : ∀ g ∈ v.ownBlock.toList, g ∉ T) : FIn w' p m a n x v back :=
  ⟨hc.blk h.st hp, h.bk.chg hc hg, h.mp.chg hc hm, h.ax, h.xn, h.le, h.mem, h.nd⟩
theorem FIn.c (h : FIn w p m a n x v back) : w.cell? ⟨p, 0, none⟩ = some (.int .i64 a) ∧ w.cell? ⟨p, 1, none⟩ = some (.int .i64 x) ∧ w.cell? ⟨p, 2, none⟩ = some (.int .i64 (a + n)) ∧ w.cell? ⟨p, 3, none⟩ = some v ∧ w.cell? ⟨p, 4, none⟩ = some (.map (some m)) := by
  have h0 := h.st.cell 0; have h1 := h.st.cell 1; have h2 := h.st.cell 2; have h3 := h.st.cell 3; have h4 := h.st.cell 4
  simp only [List.getElem?_toArray, List.getElem?_cons_succ, List.getElem?_cons_zero] at h0 h1 h2 h3 h4
  exact ⟨h0, h1, h2, h3, h4⟩
end

theorem zeroU (w : World) : (zeroValue 68).run Try.prog w = .ok (.agg #[]) w := by kernel_rfl
set_option maxHeartbeats 400000 in
theorem FNew_no (a n : Int) (w : World) (hn : -9223372036854775808 ≤ n ∧ n ≤ 9223372036854775807) (h : a < 0 ∨ n < 0 ∨ 256 < a + n) :
    Calls Try.prog 25 #[.int .i64 a, .int .i64 n] w fun e w' => e = .returned (.pointer none) ∧ w = w' := by
  by_cases h1 : a < 0
  · clear h
    go_enter Try.func25, Try.ntmps25
    go_wp2
    all_goals go_ret
    all_goals exact ⟨rfl, rfl⟩
  · by_cases h2 : n < 0
    · clear h
      go_enter Try.func25, Try.ntmps25
      go_wp2
      all_goals go_ret
      all_goals exact ⟨rfl, rfl⟩
    · have h3 : 256 - n < a := by omega
      have h4 : 0 ≤ n ∧ 0 ≤ a := by omega
      clear h
      go_enter Try.func25, Try.ntmps25
      go_wp2
      all_goals go_ret
      all_goals exact ⟨rfl, rfl⟩

set_option maxHeartbeats 400000 in
theorem FNew_in (a n : Nat) (w : World) (h : a + n ≤ 256) :
    Calls Try.prog 25 #[.int .i64 a, .int .i64 n] w fun e w' => e = .returned (.pointer (some ⟨w.heap.size + 1, 0, none⟩)) ∧ Chg [] w w' ∧ FIn w' (w.heap.size + 1) w.heap.size a n a (.slice none 0 0) [] := by
  have hmm := @run_makeMap Try.prog
  go_enter Try.func25, Try.ntmps25
  go_wp2
  all_goals go_ret
  all_goals refine ⟨rfl, ((Chg.refl _ _).alloc _).alloc _, ?_⟩
  all_goals
    have hb := Blk.new (w.alloc (Obj.map #[] 0)) 65 #[.int .i64 a, .int .i64 a, .int .i64 (a + n), .slice none 0 0, .map (some w.heap.size)]
    simp only [World.alloc, Array.size_push] at hb
    exact ⟨hb, OwnI.none_ _ _ _, by
      have := (SetM.made w Try.prog 3).chg (T := []) ((Chg.refl _ _).alloc (Obj.cells #[.int .i64 a, .int .i64 a, .int .i64 (a + n), .slice none 0 0, .map (some w.heap.size)] 65)) (by simp)
      simpa using this.congr (S' := takenB a a []) (fun x => by simp [takenB]; try omega), by simp, by omega, h, by simp, by simp⟩

set_option maxHeartbeats 400000 in
theorem FHas_any (p m a n x : Nat) (v : Value) (back : List Int) (f : Int) (w : World) (h : FIn w p m a n x v back) (hf : -9223372036854775808 ≤ f ∧ f ≤ 9223372036854775807) :
    Calls Try.prog 28 #[.pointer (some ⟨p, 0, none⟩), .int .i64 f] w fun e w' => e = .returned (.bool (decide ((a : Int) ≤ f ∧ f < a + n) && !takenB a x back f)) ∧ Chg [] w w' := by
  obtain ⟨c0, c1, c2, c3, c4⟩ := h.c
  have hwf := WalkArith.wf_i64 hf
  have hm := h.mp
  have h3 := h.le
  have hlt := h.st.lt
  clear h
  have hp : p ≠ w.heap.size := Nat.ne_of_lt hlt
  have d0 := (World.cell?_alloc_old w (Obj.cells #[] 68) ⟨p, 0, none⟩ hp).trans c0
  have d2 := (World.cell?_alloc_old w (Obj.cells #[] 68) ⟨p, 2, none⟩ hp).trans c2
  generalize ht : takenB a x back f = t
  have HT := Lib.hid ht
  by_cases h1 : (a : Int) ≤ f
  · by_cases h2 : f < a + n
    · cases t
      all_goals
        go_enter Try.func28, Try.ntmps28
        go_wp2_with (at_lookup; refine wpList_lookup_set rfl _ _ 63 rfl 68 lawI Try.underlying63 Try.underlying3 (zeroU _) m _ _ rfl hm f rfl hwf ?_; rw [ht])
        go_ret
        exact ⟨ret_bool (by simp [h1, h2]), (Chg.refl _ _).alloc _⟩
    · cases t
      all_goals
        go_enter Try.func28, Try.ntmps28
        go_wp2_with (at_lookup; refine wpList_lookup_set rfl _ _ 63 rfl 68 lawI Try.underlying63 Try.underlying3 (zeroU _) m _ _ rfl hm f rfl hwf ?_; rw [ht])
        go_ret
        exact ⟨ret_bool (by simp [h2]), (Chg.refl _ _).alloc _⟩
  · cases t
    all_goals
      go_enter Try.func28, Try.ntmps28
      go_wp2_with (at_lookup; refine wpList_lookup_set rfl _ _ 63 rfl 68 lawI Try.underlying63 Try.underlying3 (zeroU _) m _ _ rfl hm f rfl hwf ?_; rw [ht])
      go_ret
      exact ⟨ret_bool (by simp; try omega), (Chg.refl _ _).alloc _⟩


end Go.Proofs.Ytkggkdjhecagnaa

namespace Go.Proofs.Ytkggkdjhecagnaa
open Go.RowKit Go.Maps

/-- p is a list of the frames from a on, n many, of which those of L are free; its blocks are S -/
def FAt (w : World) (S : List Nat) (p a n : Nat) (L : List Int) : Prop :=
  ∃ m x v back, FIn w p m a n x v back ∧ S = p :: m :: v.ownBlock.toList ∧ L = dnk x (a + n - x) ++ back

section
variable {w w' : World} {S T : List Nat} {p a n : Nat} {L : List Int}
theorem FAt.chg (h : FAt w S p a n L) (hc : Chg T w w') (hd : ∀ i ∈ S, i ∉ T) : FAt w' S p a n L := by
  obtain ⟨m, x, v, back, h, rfl, rfl⟩ := h
  exact ⟨m, x, v, back, h.chg hc (hd p (by simp)) (hd m (by simp)) (fun g hg => hd g (by simp only [List.mem_cons]; exact .inr (.inr hg))), rfl, rfl⟩
theorem FAt.lt (h : FAt w S p a n L) : ∀ i ∈ S, i < w.heap.size := by
  obtain ⟨m, x, v, back, h, rfl, rfl⟩ := h
  intro i hi
  simp only [List.mem_cons] at hi
  rcases hi with rfl | rfl | hi
  · exact h.st.lt
  · exact h.mp.lt
  · exact h.bk.lt i hi
theorem FAt.mem_self (h : FAt w S p a n L) : p ∈ S := by
  obtain ⟨m, x, v, back, h, rfl, rfl⟩ := h
  simp
theorem FAt.bounds (h : FAt w S p a n L) : a + n ≤ 256 := by
  obtain ⟨m, x, v, back, h, rfl, rfl⟩ := h
  exact h.le
theorem FIn.mem_iff {m x : Nat} {v : Value} {back : List Int} (h : FIn w p m a n x v back) (f : Int) : f ∈ dnk x (a + n - x) ++ back ↔ ((a : Int) ≤ f ∧ f < a + n) ∧ takenB a x back f = false := by
  have h1 := h.ax; have h2 := h.xn; have h3 := h.mem f
  rw [List.mem_append, mem_dnk]
  unfold takenB
  by_cases hb : f ∈ back
  · have h4 := h3 hb
    simp only [hb, or_true, true_iff]
    exact ⟨by omega, by rw [List.contains_iff_mem.2 hb]; simp⟩
  · have hb' : back.contains f = false := by simpa using hb
    simp only [hb, or_false, hb', Bool.not_false, Bool.and_true, decide_eq_false_iff_not]
    omega
theorem FAt.mem (h : FAt w S p a n L) : ∀ f ∈ L, (a : Int) ≤ f ∧ f < a + n := by
  obtain ⟨m, x, v, back, h, rfl, rfl⟩ := h
  exact fun f hf => ((h.mem_iff f).1 hf).1
theorem dnk_nodup (x : Nat) : ∀ k, (dnk x k).Nodup
  | 0 => by simp [dnk]
  | k + 1 => by
    rw [dnk, List.nodup_cons, mem_dnk]
    exact ⟨by omega, dnk_nodup x k⟩
theorem FAt.nodup (h : FAt w S p a n L) : L.Nodup := by
  obtain ⟨m, x, v, back, h, rfl, rfl⟩ := h
  rw [List.nodup_append]
  refine ⟨dnk_nodup _ _, h.nd, fun y hy z hz => ?_⟩
  rw [mem_dnk] at hy
  have := h.mem z hz
  omega
theorem FAt.len_le (h : FAt w S p a n L) : L.length ≤ n := by
  obtain ⟨m, x, v, back, h, rfl, rfl⟩ := h
  have h1 := h.ax; have h2 := h.xn
  rw [List.length_append, dnk_len]; omega
end

theorem FNew_at (a n : Nat) (w : World) (h : a + n ≤ 256) :
    Calls Try.prog 25 #[.int .i64 a, .int .i64 n] w fun e w' => ∃ p S, e = .returned (.pointer (some ⟨p, 0, none⟩)) ∧ Chg [] w w' ∧ FAt w' S p a n (dnk a n) ∧ ∀ i ∈ S, w.heap.size ≤ i :=
  (FNew_in a n w h).mono fun _ _ ⟨he, hc, hf⟩ => ⟨_, _, he, hc, ⟨_, _, _, _, hf, rfl, by rw [Nat.add_sub_cancel_left, List.append_nil]⟩, by simp [Value.ownBlock]⟩

/-- is f free? -/
def freeB (L : List Int) (f : Int) : Bool := L.contains f
theorem FHas_at (S : List Nat) (p a n : Nat) (L : List Int) (f : Int) (w : World) (h : FAt w S p a n L) (hf : -9223372036854775808 ≤ f ∧ f ≤ 9223372036854775807) :
    Calls Try.prog 28 #[.pointer (some ⟨p, 0, none⟩), .int .i64 f] w fun e w' => e = .returned (.bool (freeB L f)) ∧ Chg [] w w' := by
  obtain ⟨m, x, v, back, h, rfl, rfl⟩ := h
  refine (FHas_any p m a n x v back f w h hf).mono fun _ _ ⟨he, hq⟩ => ⟨he.trans (ret_bool ?_), hq⟩
  unfold freeB
  rw [Bool.eq_iff_iff, List.contains_iff_mem, h.mem_iff f]
  simp

/-- what a Take answers, and whether it does -/
def takeV (L : List Int) : Int := L.getLastD 0
def takeB (L : List Int) : Bool := !L.isEmpty
theorem takeV_app (L : List Int) (f : Int) : takeV (L ++ [f]) = f := by simp [takeV]
theorem takeB_app (L : List Int) (f : Int) : takeB (L ++ [f]) = true := by simp [takeB]

end Go.Proofs.Ytkggkdjhecagnaa

namespace Go.Proofs.Ytkggkdjhecagnaa
open Go.RowKit Go.Maps

/-- does a Give go through, and what is free behind it -/
def giveB (a n : Nat) (L : List Int) (f : Int) : Bool := decide ((a : Int) ≤ f ∧ f < a + n) && !L.contains f
def giveL (a n : Nat) (L : List Int) (f : Int) : List Int := if giveB a n L f then L ++ [f] else L

end Go.Proofs.Ytkggkdjhecagnaa

namespace Go.Proofs.Ytkggkdjhecagnaa
open Go.RowKit Go.Maps

/-- p is the document's list of the frames from a on, n many, of which those of L are free; its blocks are S -/
def RAt (w : World) (S : List Nat) (p a n : Nat) (L : List Int) : Prop :=
  ∃ v, Blk w p 55 #[.int .i64 a, .int .i64 n, v] ∧ OwnI w 3 .i64 v L ∧ S = p :: v.ownBlock.toList

section
variable {w w' : World} {S T : List Nat} {p a n : Nat} {L : List Int}
theorem RAt.chg (h : RAt w S p a n L) (hc : Chg T w w') (hd : ∀ i ∈ S, i ∉ T) : RAt w' S p a n L := by
  obtain ⟨v, h1, h2, rfl⟩ := h
  exact ⟨v, hc.blk h1 (hd p (by simp)), h2.chg hc (fun g hg => hd g (by simp only [List.mem_cons]; exact .inr hg)), rfl⟩
theorem RAt.lt (h : RAt w S p a n L) : ∀ i ∈ S, i < w.heap.size := by
  obtain ⟨v, h1, h2, rfl⟩ := h
  intro i hi
  simp only [List.mem_cons] at hi
  rcases hi with rfl | hi
  · exact h1.lt
  · exact h2.lt i hi
theorem blkc3 {g : Nat} {t : TypeId} {u0 u1 u2 : Value} (h : Blk w g t #[u0, u1, u2]) : w.cell? ⟨g, 0, none⟩ = some u0 ∧ w.cell? ⟨g, 1, none⟩ = some u1 ∧ w.cell? ⟨g, 2, none⟩ = some u2 := by
  have h0 := h.cell 0; have h1 := h.cell 1; have h2 := h.cell 2
  simp only [List.getElem?_toArray, List.getElem?_cons_succ, List.getElem?_cons_zero] at h0 h1 h2
  exact ⟨h0, h1, h2⟩
end

set_option maxHeartbeats 400000 in
theorem RFNew_no (a n : Int) (w : World) (hn : -9223372036854775808 ≤ n ∧ n ≤ 9223372036854775807) (h : a < 0 ∨ n < 0 ∨ 256 < a + n) :
    Calls Try.prog 19 #[.int .i64 a, .int .i64 n] w fun e w' => e = .returned (.pointer none) ∧ w = w' := by
  by_cases h1 : a < 0
  · clear h
    go_enter Try.func19, Try.ntmps19
    go_wp2
    all_goals go_ret
    all_goals exact ⟨rfl, rfl⟩
  · by_cases h2 : n < 0
    · clear h
      go_enter Try.func19, Try.ntmps19
      go_wp2
      all_goals go_ret
      all_goals exact ⟨rfl, rfl⟩
    · have h4 : 0 ≤ n ∧ 0 ≤ a := by omega
      by_cases h5 : 256 < a
      · clear h
        go_enter Try.func19, Try.ntmps19
        go_wp2
        all_goals go_ret
        all_goals exact ⟨rfl, rfl⟩
      · have h3 : 256 - a < n := by omega
        clear h
        go_enter Try.func19, Try.ntmps19
        go_wp2
        all_goals go_ret
        all_goals exact ⟨rfl, rfl⟩

set_option maxHeartbeats 1000000 in
theorem RFNew_at (a n : Nat) (w : World) (h : a + n ≤ 256) :
    Calls Try.prog 19 #[.int .i64 a, .int .i64 n] w fun e w' => ∃ p S, e = .returned (.pointer (some ⟨p, 0, none⟩)) ∧ Chg [] w w' ∧ RAt w' S p a n (dnk a n) ∧ ∀ i ∈ S, w.heap.size ≤ i := by
  obtain ⟨i0, hi0, hz0, hz1, hz2⟩ := info_parts int_info
  go_enter Try.func19, Try.ntmps19
  go_wp2
  go_loopw [6] (fun i w' => ∃ (j : Int) (k : Nat) (v : Value), (j + 1 ≤ k ∧ k ≤ j + 1) ∧ k ≤ n ∧ i = .int .i64 j ∧ Chg [] w w' ∧ Blk w' w.heap.size 55 #[.int .i64 a, .int .i64 n, v] ∧ OwnI w' 3 .i64 v (dnk (a + k) (n - k)) ∧ (∀ g ∈ v.ownBlock.toList, w.heap.size < g)) (fun i _ => (intOf i + 1).toNat)
  case atStart => exact ⟨_, n, .slice none 0 0, by omega, by omega, rfl, (Chg.refl _ _).alloc _, Blk.new _ _ _, by rw [Nat.sub_self]; exact OwnI.none_ _ _ _, by simp [Value.ownBlock]⟩
  case round =>
    obtain ⟨j, k, v, hj, hk, rfl, hc, hb, ho, hg⟩ := hrel
    obtain ⟨A, c, rfl⟩ := ho.form
    obtain ⟨c0, c1, c2⟩ := blkc3 hb
    have f2 := hb.frozen 2
    have hlen := dnk_len (a + k) (n - k)
    have hne := ho.lt
    have hbl := hb.lt
    have HL := Lib.hid hlen
    cases k with
    | zero =>
      clear hlen
      have hj0 : j < 0 := by omega
      go_wp2
      go_ret
      have ho' := ho
      rw [Nat.add_zero, Nat.sub_zero] at ho'
      refine ⟨_, _, rfl, hc, ⟨_, hb, ho', rfl⟩, ?_⟩
      intro i hi
      simp only [List.mem_cons] at hi
      rcases hi with rfl | hi
      · omega
      · have := hg i hi; omega
    | succ k =>
      have hj0 : 0 ≤ j := by omega
      have hX : dnk (a + k) (n - k) = dnk (a + (k + 1)) (n - (k + 1)) ++ [(a : Int) + j] := by
        rw [show n - k = n - (k + 1) + 1 by omega, dnk_snoc, show ((a + k : Nat) : Int) = (a : Int) + j by omega]; rfl
      have HX := Lib.hid hX
      clear hlen hX
      generalize dnk (a + (k + 1)) (n - (k + 1)) = X at *
      go_wp2_with (at_builtin
                   refine wpList_append_src rfl _ _ 22 rfl 0 3 i0 _ 1 8 Try.underlying22 hi0 hz0 hz1 hz2 rfl (by omega) (.slice A X.length c) _ _ rfl (World.ownsRow.alloc ho _) (some ⟨wr.heap.size, 0, none⟩) 1 1 [.int .i64 (a + j)] rfl ⟨by simp, by simp [Value.oneCell'], by simp, cell_src _ wr⟩ (by rw [HL.out]; simp [maxLen]; omega) (by rw [HL.out]; omega) (by simp) ?_
                   intro v3 w3 hown3 hc3 hv3
                   obtain ⟨A3, k3, rfl, _, _⟩ := own_form hown3
                   have hst3 := hc3.blk (hb.alloc _) (fun hm => absurd (hg _ hm) (by omega))
                   obtain ⟨d0, d1, d2⟩ := blkc3 hst3
                   have g2 := hst3.frozen 2)
      go_roundw
      have hcl : Chg [w.heap.size] w3 (w3.setCell ⟨w.heap.size, 2, none⟩ (.slice A3 (X.length + 1) k3)) := (Chg.refl _ _).setCell (by simp) _
      have hsz3 := hc3.size
      have hg3 : ∀ g ∈ (Value.slice A3 (X.length + 1) k3).ownBlock.toList, w.heap.size < g := by
        intro i hi
        rcases hv3 with e | e
        · rw [e] at hi; exact hg i hi
        · rw [e] at hi; simp at hi; omega
      case rel =>
        refine ⟨_, k, .slice A3 (X.length + 1) k3, by omega, by omega, rfl, ?_, hst3.set_ 2 _, ?_, hg3⟩
        · exact ((hc.alloc _).trans hc3 (by intro i hi hm; have := hg i hm; omega)).setCell (by simp) _
        · rw [HX.out]
          refine OwnI.chg ?_ hcl (by intro i hi hm; simp at hm; have := hg3 i hi; omega)
          unfold OwnI
          rw [vals_app, vals_one, List.length_append]
          exact hown3
      case measure => simp [intOf]; omega

end Go.Proofs.Ytkggkdjhecagnaa
