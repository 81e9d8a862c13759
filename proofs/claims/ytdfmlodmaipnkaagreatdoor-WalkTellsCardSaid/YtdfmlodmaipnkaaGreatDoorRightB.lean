/-
  The contracts of right's Under, May, Code.
-/
import Derived.Test.YtdfmlodmaipnkaaGreatDoorRightA
namespace Go.Proofs.YtdfmlodmaipnkaaGreatDoor
open Go.RowKit

set_option maxRecDepth 100000 in
set_option maxHeartbeats 2000000 in
theorem Under_any (a b : Rg) (w : World) :
    Calls Tryz.prog 73 #[.agg a.cs, .agg b.cs] w fun e w' => e = .returned (.bool (under a b)) ∧ Chg [] w w' := by
  have hq := fun w => run_eqR (a.and b) a w
  have hM : ∀ (g : Nat) (w : World), Blk w g 30 #[.bool a.w, .bool a.u, .bool a.x, .bool b.w, .bool b.u, .bool b.x] →
      Calls Tryz.prog 68 #[.slice (some ⟨g, 0, none⟩) 2 2] w fun e w' => e = .returned (.agg (a.and b).cs) ∧ Chg [] w w' := fun g w h => by
    have := Meet_any _ 2 2 [a, b] w (SlR.made2 a b h) (by decide)
    rwa [meet2] at this
  unfold under
  generalize (a.and b).eqb a = t at *
  generalize a.and b = m at *
  obtain ⟨aw, au, ax⟩ := a
  obtain ⟨bw, bu, bx⟩ := b
  obtain ⟨mw, mu, mx⟩ := m
  simp only [Rg.cs] at *
  go_enter Tryz.func73, Tryz.ntmps73
  go_wp2_with fail
  have hA := (Blk.new w 30 #[.bool aw, .bool au, .bool ax]).alloc (Obj.cells #[.bool bw, .bool bu, .bool bx] 30)
  have hB := Blk.new (w.alloc (Obj.cells #[.bool aw, .bool au, .bool ax] 30)) 30 #[.bool bw, .bool bu, .bool bx]
  rw [show (w.alloc (Obj.cells #[.bool aw, .bool au, .bool ax] 30)).heap.size = w.heap.size + 1 by simp] at hB
  have hc := ((Chg.refl [] w).alloc (Obj.cells #[.bool aw, .bool au, .bool ax] 30)).alloc (Obj.cells #[.bool bw, .bool bu, .bool bx] 30)
  generalize (w.alloc (Obj.cells #[.bool aw, .bool au, .bool ax] 30)).alloc (Obj.cells #[.bool bw, .bool bu, .bool bx] 30) = w0 at *
  generalize w.heap.size = g at *
  obtain ⟨a0, a1, a2⟩ := blk3 hA
  obtain ⟨b0, b1, b2⟩ := blk3 hB
  have hlt := hA.lt
  go_region_held3 (fun w' => w'.cell? ⟨g, 0, none⟩ = some (.bool aw) ∧ w'.cell? ⟨g, 1, none⟩ = some (.bool au) ∧ w'.cell? ⟨g, 2, none⟩ = some (.bool ax) ∧ w'.cell? ⟨g + 1, 0, none⟩ = some (.bool bw) ∧ w'.cell? ⟨g + 1, 1, none⟩ = some (.bool bu) ∧ w'.cell? ⟨g + 1, 2, none⟩ = some (.bool bx))
    (first
      | exact ⟨a0, a1, a2, b0, b1, b2⟩
      | exact ⟨d0, d1, d2, k0, k1, k2⟩
      | go_keep)
    ((first
      | (go_at_call 68; refine (hM _ _ (Blk.drew (Blk.new w0 _ _))).mono ?_; rintro e w1 ⟨rfl, hc1⟩; have hA1 := (Blk.drew (hA.alloc (Obj.cells #[.bool aw, .bool au, .bool ax, .bool bw, .bool bu, .bool bx] 30))).chg_ hc1 (by simp); have hB1 := (Blk.drew (hB.alloc (Obj.cells #[.bool aw, .bool au, .bool ax, .bool bw, .bool bu, .bool bx] 30))).chg_ hc1 (by simp); obtain ⟨d0, d1, d2⟩ := blk3 hA1; obtain ⟨k0, k1, k2⟩ := blk3 hB1; have hcw := ((hc.alloc (Obj.cells #[.bool aw, .bool au, .bool ax, .bool bw, .bool bu, .bool bx] 30)).drew).trans hc1 (by simp); clear hc1)
      | fail "HERE"))
  go_wp2_with fail
  go_ret
  exact ⟨rfl, hcw⟩

/-- two results, the first a struct that lies in a cell -/
theorem cell_tmp_ret {P : Program} {fn : Func} {p q : Tmp} {ty : TypeId} (h : fn.results = #[.cell p ty, .tmp q]) {tmps : Array Value} {w : World} {g : Nat} {t : TypeId} {cs : Array Value} {d : TypeDesc} (hb : Blk w g t cs)
    (hp : tmps.getD p undef = .pointer (some ⟨g, 0, none⟩)) (hu : P.underlying ty = some d) (hd : (match d with | .struct _ | .array _ _ => true | _ => false) = true) (hi : (P.info? ty).map (·.size) = some cs.size) :
    (results fn tmps).run P w = .ok (.tuple #[.agg cs, tmps.getD q undef]) w := by
  have hp' : tmps[p]?.getD undef = .pointer (some ⟨g, 0, none⟩) := by simpa using hp
  simp [results, h, hp', asAddr, run_loadVar_row w g t ty cs (0, 0) d hb hu hd hi]

/-- what an access of this kind asks, and whether there is such a kind -/
def askR (k : Int) (t : Bool) : Rg := if k = 0 ∨ k = 1 ∨ k = 2 then ⟨decide (k = 1), t, decide (k = 2)⟩ else ⟨false, false, false⟩
def kindB (k : Int) : Bool := decide (k = 0 ∨ k = 1 ∨ k = 2)

set_option maxRecDepth 100000 in
set_option maxHeartbeats 2000000 in
theorem asks_any (k : Int) (t : Bool) (w : World) :
    Calls Tryz.prog 72 #[.int .i64 k, .bool t] w fun e w' => e = .returned (.tuple #[.agg (askR k t).cs, .bool (kindB k)]) ∧ Chg [] w w' := by
  have hA := (Blk.new w 30 #[.bool false, .bool false, .bool false]).alloc (Obj.cells #[.bool false, .bool false, .bool false] 30)
  have hc := ((Chg.refl [] w).alloc (Obj.cells #[.bool false, .bool false, .bool false] 30)).alloc (Obj.cells #[.bool false, .bool false, .bool false] 30)
  by_cases h0 : k = 0
  · subst h0
    go_enter Tryz.func72, Tryz.ntmps72
    go_wp2_with fail
    try simp only [Exit.inBlock, Exit.then]
    refine bodyPost_ret (cell_tmp_ret rfl ((Blk.new w _ _).alloc _) rfl Tryz.underlying30 rfl (by kernel_rfl)) rfl ?_
    exact ⟨rfl, ((Chg.refl [] w).alloc _).alloc _⟩
  · have e0 : (k == 0) = false := by simp [h0]
    by_cases h1 : k = 1
    · subst h1
      go_enter Tryz.func72, Tryz.ntmps72
      go_wp2_with fail
      try simp only [Exit.inBlock, Exit.then]
      refine bodyPost_ret (cell_tmp_ret rfl ((Blk.new w _ _).alloc _) rfl Tryz.underlying30 rfl (by kernel_rfl)) rfl ?_
      exact ⟨rfl, ((Chg.refl [] w).alloc _).alloc _⟩
    · have e1 : (k == 1) = false := by simp [h1]
      by_cases h2 : k = 2
      · subst h2
        go_enter Tryz.func72, Tryz.ntmps72
        go_wp2_with fail
        try simp only [Exit.inBlock, Exit.then]
        refine bodyPost_ret (cell_tmp_ret rfl ((Blk.new w _ _).alloc _) rfl Tryz.underlying30 rfl (by kernel_rfl)) rfl ?_
        exact ⟨rfl, ((Chg.refl [] w).alloc _).alloc _⟩
      · have e2 : (k == 2) = false := by simp [h2]
        have hr : askR k t = ⟨false, false, false⟩ := by simp [askR, h0, h1, h2]
        have hk : kindB k = false := by simp [kindB, h0, h1, h2]
        rw [hr, hk]
        go_enter Tryz.func72, Tryz.ntmps72
        go_wp2_with fail
        try simp only [Exit.inBlock, Exit.then]
        refine bodyPost_ret (cell_tmp_ret rfl ((Blk.new w _ _).alloc _) rfl Tryz.underlying30 rfl (by kernel_rfl)) rfl ?_
        exact ⟨rfl, ((Chg.refl [] w).alloc _).alloc _⟩

/-- is an access permitted? -/
def mayB (r : Rg) (k : Int) (t : Bool) : Bool := kindB k && under (askR k t) r

set_option maxRecDepth 100000 in
set_option maxHeartbeats 2000000 in
theorem May_any (r : Rg) (k : Int) (t : Bool) (w : World) :
    Calls Tryz.prog 51 #[.agg r.cs, .int .i64 k, .bool t] w fun e w' => e = .returned (.bool (mayB r k t)) ∧ Chg [] w w' := by
  have hA := fun w => asks_any k t w
  have hU := fun w => Under_any (askR k t) r w
  unfold mayB
  generalize under (askR k t) r = u at *
  generalize askR k t = a at *
  generalize kindB k = b at *
  obtain ⟨rw, ru, rx⟩ := r
  obtain ⟨aw, au, ax⟩ := a
  simp only [Rg.cs] at *
  cases b
  · go_enter Tryz.func51, Tryz.ntmps51
    go_wp2_with fail
    refine (hA _).mono ?_; rintro e w1 ⟨rfl, hc1⟩
    have hcw := ((Chg.refl [] w).alloc (Obj.cells #[.bool rw, .bool ru, .bool rx] 30)).trans hc1 (by simp)
    go_wp2_with fail
    go_ret
    exact ⟨rfl, hcw.alloc _⟩
  · go_enter Tryz.func51, Tryz.ntmps51
    go_wp2_with fail
    refine (hA _).mono ?_; rintro e w1 ⟨rfl, hc1⟩
    have hcw := ((Chg.refl [] w).alloc (Obj.cells #[.bool rw, .bool ru, .bool rx] 30)).trans hc1 (by simp)
    have hR1 := (Blk.new w 30 #[.bool rw, .bool ru, .bool rx]).chg_ hc1 (by simp)
    obtain ⟨a0, a1, a2⟩ := blk3 hR1
    obtain ⟨b0, b1, b2⟩ := blk3 (hR1.alloc (Obj.cells #[.bool aw, .bool au, .bool ax] 30))
    clear hc1 hR1
    go_wp2_with fail
    refine (hU _).mono ?_; rintro e w2 ⟨rfl, hc2⟩
    go_wp2_with fail
    go_ret
    exact ⟨rfl, (hcw.alloc _).trans hc2 (by simp)⟩

def pN (b : Bool) (c : Int) : Int := if b then c else 0
theorem pN_le (b : Bool) {c : Int} (h : 0 ≤ c) : 0 ≤ pN b c ∧ pN b c ≤ c := by cases b <;> simp [pN] <;> omega
set_option maxHeartbeats 400000 in
theorem part_any (b : Bool) (c : Int) (w : World) : Calls Tryz.prog 84 #[.bool b, .int .i64 c] w fun e w' => e = .returned (.int .i64 (pN b c)) ∧ w' = w := by
  cases b
  all_goals
    go_enter Tryz.func84, Tryz.ntmps84
    go_wp2_with fail
    go_ret
    exact ⟨rfl, rfl⟩

/-- a fault's code -/
def codeN (k : Int) (t th bad : Bool) : Int := pN th 1 + pN (k == 1) 2 + pN t 4 + pN (th && bad) 8 + pN (k == 2) 16

set_option maxRecDepth 100000 in
set_option maxHeartbeats 2000000 in
theorem Code_any (k : Int) (t th bad : Bool) (w : World) :
    Calls Tryz.prog 74 #[.int .i64 k, .bool t, .bool th, .bool bad] w fun e w' => e = .returned (.int .i64 (codeN k t th bad)) ∧ w' = w := by
  have p1 := fun w => part_any th 1 w
  have p2 := fun w => part_any (k == 1) 2 w
  have p3 := fun w => part_any t 4 w
  have p4 := fun w => part_any (th && bad) 8 w
  have p5 := fun w => part_any (k == 2) 16 w
  have b1 := pN_le th (c := 1) (by decide)
  have b2 := pN_le (k == 1) (c := 2) (by decide)
  have b3 := pN_le t (c := 4) (by decide)
  have b4 := pN_le (th && bad) (c := 8) (by decide)
  have b5 := pN_le (k == 2) (c := 16) (by decide)
  unfold codeN
  generalize pN th 1 = x1 at *
  generalize pN (k == 1) 2 = x2 at *
  generalize pN t 4 = x3 at *
  generalize pN (th && bad) 8 = x4 at *
  generalize pN (k == 2) 16 = x5 at *
  generalize hk1 : (k == 1) = k1 at *
  generalize hk2 : (k == 2) = k2 at *
  cases th
  all_goals
    simp only [Bool.false_and, Bool.true_and] at p4
    go_enter Tryz.func74, Tryz.ntmps74
    go_wp2_with fail
    refine (p1 _).mono ?_; rintro e w1 ⟨rfl, rfl⟩
    go_wp2_with fail
    refine (p2 _).mono ?_; rintro e w1 ⟨rfl, rfl⟩
    go_wp2_with fail
    refine (p3 _).mono ?_; rintro e w1 ⟨rfl, rfl⟩
    go_wp2_with fail
    refine (p4 _).mono ?_; rintro e w1 ⟨rfl, rfl⟩
    go_wp2_with fail
    refine (p5 _).mono ?_; rintro e w1 ⟨rfl, rfl⟩
    go_wp2_with fail
    go_ret
    exact ⟨rfl, rfl⟩

set_option maxHeartbeats 400000 in
theorem Of_any (p0 p1 p2 p3 p4 p5 p6 p7 : Bool) (f : Int) (w : World) :
    Calls Tryz.prog 69 #[.agg #[.bool p0, .bool p1, .bool p2, .bool p3, .bool p4, .bool p5, .bool p6, .bool p7, .int .i64 f]] w fun e w' => e = .returned (.agg #[.bool p1, .bool p2, .bool !p6]) ∧ Chg [] w w' := by
  go_enter Tryz.func69, Tryz.ntmps69
  go_wp2_with fail
  try simp only [Exit.inBlock, Exit.then]
  have hB := Blk.new (w.alloc (Obj.cells #[.bool p0, .bool p1, .bool p2, .bool p3, .bool p4, .bool p5, .bool p6, .bool p7, .int .i64 f] 77)) 30 #[.bool p1, .bool p2, .bool !p6]
  rw [show (w.alloc (Obj.cells #[.bool p0, .bool p1, .bool p2, .bool p3, .bool p4, .bool p5, .bool p6, .bool p7, .int .i64 f] 77)).heap.size = w.heap.size + 1 by simp] at hB
  refine bodyPost_ret (cell_ret rfl hB rfl Tryz.underlying30 rfl (by kernel_rfl)) rfl ?_
  exact ⟨rfl, ((Chg.refl [] w).alloc _).alloc _⟩

end Go.Proofs.YtdfmlodmaipnkaaGreatDoor
