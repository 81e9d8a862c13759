/-
  The contracts of free's New, Left, Has, pick.
-/
import Derived.Test.YteccjemmdaalpaaProg
import Derived.Test.YteccjemmdaalpaaLib2
namespace Go.Proofs.Yteccjemmdaalpaa
open Go.RowKit Go.Maps

/-- the k numbers from x on, the least one last -/
def dnk (x : Nat) : Nat → List Int
  | 0 => []
  | k + 1 => ((x : Int) + k) :: dnk x k
theorem dnk_len (x : Nat) : ∀ k, (dnk x k).length = k
  | 0 => rfl
  | k + 1 => by rw [dnk, List.length_cons, dnk_len x k]
theorem dnk_snoc (x : Nat) : ∀ k, dnk x (k + 1) = dnk (x + 1) k ++ [(x : Int)]
  | 0 => by simp [dnk]
  | k + 1 => by
    rw [dnk, dnk_snoc x k, dnk]
    simp only [List.cons_append, List.cons.injEq, and_true]; omega
theorem mem_dnk (x : Nat) (f : Int) : ∀ k, f ∈ dnk x k ↔ (x : Int) ≤ f ∧ f < x + k
  | 0 => by simp only [dnk, List.not_mem_nil, false_iff]; omega
  | k + 1 => by
    rw [dnk, List.mem_cons, mem_dnk x f k]; omega

/-- is f taken? -/
def takenB (a x : Nat) (back : List Int) (f : Int) : Bool := decide ((a : Int) ≤ f ∧ f < x) && !back.contains f

/-- p is a list of free frames: its struct is block p, its map block m, those that were given back are v -/
structure FIn (w : World) (p m a n x : Nat) (v : Value) (back : List Int) : Prop where
  st : Blk w p 45 #[.int .i64 a, .int .i64 x, .int .i64 (a + n), v, .map (some m)]
  bk : OwnI w 3 .i64 v back
  mp : SetM Try.prog 3 w m (x - a - back.length) (takenB a x back)
  ax : a + back.length ≤ x
  xn : x ≤ a + n
  le : a + n ≤ 256
  mem : ∀ f ∈ back, (a : Int) ≤ f ∧ f < x
  nd : back.Nodup

section
variable {w w' : World} {p m a n x : Nat} {v : Value} {back : List Int}
theorem FIn.ne1 (h : FIn w p m a n x v back) : m ≠ p := h.mp.blk_ne h.st
theorem FIn.ne2 (h : FIn w p m a n x v back) : ∀ g ∈ v.ownBlock.toList, g ≠ p := fun g hg => by
  obtain ⟨cur, hb⟩ := h.bk.blk hg
  exact hb.type_ne h.st (by decide)
theorem FIn.ne3 (h : FIn w p m a n x v back) : ∀ g ∈ v.ownBlock.toList, g ≠ m := fun g hg => by
  obtain ⟨cur, hb⟩ := h.bk.blk hg
  exact (h.mp.blk_ne hb).symm
theorem FIn.chg {T : List Nat} (h : FIn w p m a n x v back) (hc : Chg T w w') (hp : p ∉ T) (hm : m ∉ T) (hg : ∀ g ∈ v.ownBlock.toList, g ∉ T) : FIn w' p m a n x v back :=
  ⟨hc.blk h.st hp, h.bk.chg hc hg, h.mp.chg hc hm, h.ax, h.xn, h.le, h.mem, h.nd⟩
theorem FIn.c (h : FIn w p m a n x v back) : w.cell? ⟨p, 0, none⟩ = some (.int .i64 a) ∧ w.cell? ⟨p, 1, none⟩ = some (.int .i64 x) ∧ w.cell? ⟨p, 2, none⟩ = some (.int .i64 (a + n)) ∧ w.cell? ⟨p, 3, none⟩ = some v ∧ w.cell? ⟨p, 4, none⟩ = some (.map (some m)) := by
  have h0 := h.st.cell 0; have h1 := h.st.cell 1; have h2 := h.st.cell 2; have h3 := h.st.cell 3; have h4 := h.st.cell 4
  simp only [List.getElem?_toArray, List.getElem?_cons_succ, List.getElem?_cons_zero] at h0 h1 h2 h3 h4
  exact ⟨h0, h1, h2, h3, h4⟩
end

theorem lawI : Keyed Try.prog 3 := int_keyed Try.underlying3
theorem zeroU (w : World) : (zeroValue 48).run Try.prog w = .ok (.agg #[]) w := by kernel_rfl
theorem int_info : ((Try.prog.info? 3).map (fun i => (i.zero, i.size, i.bytes))) = some (some (.int .i64 0), 1, 8) := by kernel_rfl

set_option maxHeartbeats 400000 in
theorem FNew_no (a n : Int) (w : World) (hn : -9223372036854775808 ≤ n ∧ n ≤ 9223372036854775807) (h : a < 0 ∨ n < 0 ∨ 256 < a + n) :
    Calls Try.prog 10 #[.int .i64 a, .int .i64 n] w fun e w' => e = .returned (.pointer none) ∧ w = w' := by
  by_cases h1 : a < 0
  · clear h
    go_enter Try.func10, Try.ntmps10
    go_wp2
    all_goals go_ret
    all_goals exact ⟨rfl, rfl⟩
  · by_cases h2 : n < 0
    · clear h
      go_enter Try.func10, Try.ntmps10
      go_wp2
      all_goals go_ret
      all_goals exact ⟨rfl, rfl⟩
    · have h3 : 256 - n < a := by omega
      have h4 : 0 ≤ n ∧ 0 ≤ a := by omega
      clear h
      go_enter Try.func10, Try.ntmps10
      go_wp2
      all_goals go_ret
      all_goals exact ⟨rfl, rfl⟩

set_option maxHeartbeats 400000 in
theorem FNew_in (a n : Nat) (w : World) (h : a + n ≤ 256) :
    Calls Try.prog 10 #[.int .i64 a, .int .i64 n] w fun e w' => e = .returned (.pointer (some ⟨w.heap.size + 1, 0, none⟩)) ∧ Chg [] w w' ∧ FIn w' (w.heap.size + 1) w.heap.size a n a (.slice none 0 0) [] := by
  have hmm := @run_makeMap Try.prog
  go_enter Try.func10, Try.ntmps10
  go_wp2
  all_goals go_ret
  all_goals refine ⟨rfl, ((Chg.refl _ _).alloc _).alloc _, ?_⟩
  all_goals
    have hb := Blk.new (w.alloc (Obj.map #[] 0)) 45 #[.int .i64 a, .int .i64 a, .int .i64 (a + n), .slice none 0 0, .map (some w.heap.size)]
    simp only [World.alloc, Array.size_push] at hb
    exact ⟨hb, OwnI.none_ _ _ _, by
      have := (SetM.made w Try.prog 3).chg (T := []) ((Chg.refl _ _).alloc (Obj.cells #[.int .i64 a, .int .i64 a, .int .i64 (a + n), .slice none 0 0, .map (some w.heap.size)] 45)) (by simp)
      simpa using this.congr (S' := takenB a a []) (fun x => by simp [takenB]; try omega), by simp, by omega, h, by simp, by simp⟩

set_option maxHeartbeats 400000 in
theorem FLeft_any (p m a n x : Nat) (v : Value) (back : List Int) (w : World) (h : FIn w p m a n x v back) :
    Calls Try.prog 16 #[.pointer (some ⟨p, 0, none⟩)] w fun e w' => e = .returned (.int .i64 (a + n - x + back.length)) ∧ ∃ q, w' = w.drewN q := by
  obtain ⟨c0, c1, c2, c3, c4⟩ := h.c
  obtain ⟨A, c, rfl⟩ := h.bk.form
  have h1 := h.ax; have h2 := h.xn; have h3 := h.le
  clear h
  go_enter Try.func16, Try.ntmps16
  go_wp2
  go_quiet (fail)
  go_wp2
  go_ret
  exact ⟨ret_int (by omega), _, rfl⟩

set_option maxHeartbeats 400000 in
theorem FHas_any (p m a n x : Nat) (v : Value) (back : List Int) (f : Int) (w : World) (h : FIn w p m a n x v back) (hf : -9223372036854775808 ≤ f ∧ f ≤ 9223372036854775807) :
    Calls Try.prog 18 #[.pointer (some ⟨p, 0, none⟩), .int .i64 f] w fun e w' => e = .returned (.bool (decide ((a : Int) ≤ f ∧ f < a + n) && !takenB a x back f)) ∧ Chg [] w w' := by
  obtain ⟨c0, c1, c2, c3, c4⟩ := h.c
  have hwf := WalkArith.wf_i64 hf
  have hm := h.mp
  have h3 := h.le
  have hlt := h.st.lt
  clear h
  have hp : p ≠ w.heap.size := Nat.ne_of_lt hlt
  have d0 := (World.cell?_alloc_old w (Obj.cells #[] 48) ⟨p, 0, none⟩ hp).trans c0
  have d2 := (World.cell?_alloc_old w (Obj.cells #[] 48) ⟨p, 2, none⟩ hp).trans c2
  generalize ht : takenB a x back f = t
  have HT := Lib.hid ht
  by_cases h1 : (a : Int) ≤ f
  · by_cases h2 : f < a + n
    · cases t
      all_goals
        go_enter Try.func18, Try.ntmps18
        go_wp2_with (at_lookup; refine wpList_lookup_set rfl _ _ 43 rfl 48 lawI Try.underlying43 Try.underlying3 (zeroU _) m _ _ rfl hm f rfl hwf ?_; rw [ht])
        go_ret
        exact ⟨ret_bool (by simp [h1, h2]), (Chg.refl _ _).alloc _⟩
    · cases t
      all_goals
        go_enter Try.func18, Try.ntmps18
        go_wp2_with (at_lookup; refine wpList_lookup_set rfl _ _ 43 rfl 48 lawI Try.underlying43 Try.underlying3 (zeroU _) m _ _ rfl hm f rfl hwf ?_; rw [ht])
        go_ret
        exact ⟨ret_bool (by simp [h1, h2]), (Chg.refl _ _).alloc _⟩
  · cases t
    all_goals
      go_enter Try.func18, Try.ntmps18
      go_wp2_with (at_lookup; refine wpList_lookup_set rfl _ _ 43 rfl 48 lawI Try.underlying43 Try.underlying3 (zeroU _) m _ _ rfl hm f rfl hwf ?_; rw [ht])
      go_ret
      exact ⟨ret_bool (by simp [h1]; try omega), (Chg.refl _ _).alloc _⟩


set_option maxHeartbeats 400000 in
theorem pick_back (p m a n x : Nat) (g c : Nat) (bk : List Int) (f : Int) (w : World) (h : FIn w p m a n x (.slice (some ⟨g, 0, none⟩) (bk.length + 1) c) (bk ++ [f])) (hc : bk.length + 1 ≤ c) (hcm : c ≤ 9223372036854775807) :
    Calls Try.prog 20 #[.pointer (some ⟨p, 0, none⟩)] w fun e w' => e = .returned (.tuple #[.int .i64 f, .bool true]) ∧ w.setCell ⟨p, 3, none⟩ (.slice (some ⟨g, 0, none⟩) bk.length c) = w' := by
  obtain ⟨c0, c1, c2, c3, c4⟩ := h.c
  have f3 := h.st.frozen 3
  have d := h.bk.cell bk.length (by simp)
  simp only [List.getD_eq_getElem?_getD, List.getElem?_append_right (Nat.le_refl _), Nat.sub_self, List.getElem?_cons_zero, Option.getD_some] at d
  have h1 := h.ax; have h2 := h.xn; have h3 := h.le
  simp at h1
  clear h
  generalize bk.length = b at *
  go_enter Try.func20, Try.ntmps20
  go_wp2
  go_ret2
  exact ⟨rfl, rfl⟩

set_option maxHeartbeats 400000 in
theorem pick_next (p m a n x : Nat) (v : Value) (w : World) (h : FIn w p m a n x v []) (hx : x < a + n) :
    Calls Try.prog 20 #[.pointer (some ⟨p, 0, none⟩)] w fun e w' => e = .returned (.tuple #[.int .i64 x, .bool true]) ∧ ∃ q, (w.drewN q).setCell ⟨p, 1, none⟩ (.int .i64 (x + 1)) = w' := by
  obtain ⟨c0, c1, c2, c3, c4⟩ := h.c
  have f1 := h.st.frozen 1
  obtain ⟨A, c, rfl⟩ := h.bk.form
  have h1 := h.ax; have h3 := h.le
  simp at h1
  clear h
  have e1 : ((x : Int) == a + n) = false := by simp; omega
  go_enter Try.func20, Try.ntmps20
  go_wp2
  go_quiet (fail)
  go_wp2
  go_ret2
  exact ⟨rfl, _, rfl⟩

set_option maxHeartbeats 400000 in
theorem pick_none (p m a n x : Nat) (v : Value) (w : World) (h : FIn w p m a n x v []) (hx : x = a + n) :
    Calls Try.prog 20 #[.pointer (some ⟨p, 0, none⟩)] w fun e w' => e = .returned (.tuple #[.int .i64 0, .bool false]) ∧ ∃ q, w.drewN q = w' := by
  subst hx
  obtain ⟨c0, c1, c2, c3, c4⟩ := h.c
  obtain ⟨A, c, rfl⟩ := h.bk.form
  have h1 := h.ax; have h3 := h.le
  simp at h1
  clear h
  have e1 : (((a + n : Nat) : Int) == a + n) = true := by simp
  go_enter Try.func20, Try.ntmps20
  go_wp2
  go_quiet (fail)
  go_wp2
  go_ret2
  exact ⟨rfl, _, rfl⟩

end Go.Proofs.Yteccjemmdaalpaa
