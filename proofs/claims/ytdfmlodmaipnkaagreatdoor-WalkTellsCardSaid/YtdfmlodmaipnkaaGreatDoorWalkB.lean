/-
  The contracts of package walk: what an entry is, where its word stands; why a walk stops; an entry that is read.
-/
import Derived.Test.YtdfmlodmaipnkaaGreatDoorWalkA
import Derived.Test.YtdfmlodmaipnkaaGreatDoorGuestB
import Derived.Test.YtdfmlodmaipnkaaGreatDoorVaA
import Derived.Test.YtdfmlodmaipnkaaGreatDoorRightB
import Derived.StillTailTactics
namespace Go.Proofs.YtdfmlodmaipnkaaGreatDoor
open Go.RowKit Go.Maps

/-- an entry on a way as cells -/
def It.cs (x : It) : Array Value := #[.int .i64 x.lv, .int .i64 x.g, .int .i64 x.i, .bool x.e.p, .bool x.e.w, .bool x.e.u, .bool x.e.a, .bool x.e.d, .bool x.e.s, .bool x.e.n, .bool x.e.bad, .int .i64 x.e.f]
/-- why a walk stops, as an error -/
def stopV (p : Int × Int) : Value := .iface 71 (.agg #[.int .i64 p.1, .int .i64 p.2])
def errO (kind : Int) (user : Bool) : Option Nat → Value
  | none => .nilIface
  | some t => stopV (stopOf kind user t)
/-- what a page is asked for, as cells -/
def accV (q : Nat) (page kind : Int) (user : Bool) : Array Value := #[.pointer (some ⟨q, 0, none⟩), .int .i64 page, .int .i64 kind, .bool user]

theorem tmod8 (f : Int) : (Int.tmod f 8 != 0) = (f % 8 != 0) := by
  rw [Bool.eq_iff_iff]
  simp only [bne_iff_ne, ne_eq]
  have := Int.dvd_iff_tmod_eq_zero (a := 8) (b := f)
  have := Int.dvd_iff_emod_eq_zero (a := 8) (b := f)
  omega

set_option maxRecDepth 100000 in
set_option maxHeartbeats 2000000 in
theorem bad_any (x : It) (w : World) :
    Calls Tryz.prog 85 #[.agg x.cs] w fun e w' => e = .returned (.bool (badE x.e x.lv)) ∧ Chg [] w w' := by
  have ht := tmod8 x.e.f
  unfold badE It.cs
  obtain ⟨lv, g, i, ⟨ep, ew, eu, ea, ed, es, en, eb, ef⟩, err⟩ := x
  simp only at *
  generalize (ef % 8 != 0) = t8 at *
  generalize hl : (lv != 2) = l2 at *
  cases eb
  · cases es
    · go_enter Tryz.func85, Tryz.ntmps85
      go_wp2_with fail
      go_ret
      exact ⟨rfl, (Chg.refl [] w).alloc _⟩
    · cases l2
      · go_enter Tryz.func85, Tryz.ntmps85
        go_wp2_with fail
        go_ret
        exact ⟨ret_bool (by simp), (Chg.refl [] w).alloc _⟩
      · go_enter Tryz.func85, Tryz.ntmps85
        go_wp2_with fail
        go_ret
        exact ⟨rfl, (Chg.refl [] w).alloc _⟩
  · go_enter Tryz.func85, Tryz.ntmps85
    go_wp2_with fail
    go_ret
    exact ⟨rfl, (Chg.refl [] w).alloc _⟩

set_option maxRecDepth 100000 in
set_option maxHeartbeats 2000000 in
theorem last_any (x : It) (w : World) :
    Calls Tryz.prog 70 #[.agg x.cs] w fun e w' => e = .returned (.bool x.last) ∧ Chg [] w w' := by
  unfold It.last It.cs
  obtain ⟨lv, g, i, ⟨ep, ew, eu, ea, ed, es, en, eb, ef⟩, err⟩ := x
  simp only at *
  generalize hl : (lv == 1) = l1 at *
  cases l1
  all_goals
    go_enter Tryz.func70, Tryz.ntmps70
    go_wp2_with fail
    go_ret
    exact ⟨ret_bool (by simp), (Chg.refl [] w).alloc _⟩

set_option maxRecDepth 100000 in
set_option maxHeartbeats 2000000 in
theorem frame_any (x : It) (page : Int) (w : World) :
    Calls Tryz.prog 71 #[.agg x.cs, .int .i64 page] w fun e w' => e = .returned (.int .i64 (if x.e.s then wrap64 (x.e.f + idxI page 1) else x.e.f)) ∧ Chg [] w w' := by
  have C1 : ∀ w0 : World, Calls Tryz.prog 83 #[.int .i64 page, .int .i64 1] w0 fun e w' => e = .returned (.int .i64 (idxI page 1)) ∧ Chg [] w0 w' := fun w0 => (Idx_any page 1 w0 (by decide) (by decide)).mono fun e w' ⟨h1, h2⟩ => ⟨h1, h2.chg⟩
  unfold It.cs
  obtain ⟨lv, g, i, ⟨ep, ew, eu, ea, ed, es, en, eb, ef⟩, err⟩ := x
  simp only at *
  generalize idxI page 1 = i1 at *
  cases es
  · go_enter Tryz.func71, Tryz.ntmps71
    go_wp2_with fail
    go_ret
    exact ⟨rfl, (Chg.refl [] w).alloc _⟩
  · go_enter Tryz.func71, Tryz.ntmps71
    go_wp2_with fail
    have hB := Blk.new w 129 #[.int .i64 lv, .int .i64 g, .int .i64 i, .bool ep, .bool ew, .bool eu, .bool ea, .bool ed, .bool true, .bool en, .bool eb, .int .i64 ef]
    have hc := (Chg.refl [] w).alloc (.cells #[.int .i64 lv, .int .i64 g, .int .i64 i, .bool ep, .bool ew, .bool eu, .bool ea, .bool ed, .bool true, .bool en, .bool eb, .int .i64 ef] 129)
    generalize w.alloc (.cells #[.int .i64 lv, .int .i64 g, .int .i64 i, .bool ep, .bool ew, .bool eu, .bool ea, .bool ed, .bool true, .bool en, .bool eb, .int .i64 ef] 129) = w0 at *
    generalize w.heap.size = gb at *
    have k11 := fun nq : Cls w0 => nq.cell (hB.cell 11)
    simp at k11
    have D1 : ∀ nq : Cls w0, Calls Tryz.prog 83 #[.int .i64 page, .int .i64 1] nq.val fun e w' => e = .returned (.int .i64 i1) ∧ Chg [] nq.val w' := fun nq => C1 nq.val
    refine wp_region_cls (by kernel_rfl) (by kernel_rfl) ?_
    repeat (go_big_quiet_step (first | (go_at_call 83; with_reducible exact Calls.cls (D1 _))))
    refine wpQuiet_nil ?_
    rintro _ ⟨nq, rfl⟩
    go_wp2_with fail
    go_ret
    exact ⟨ret_int (by simp), hc.trans nq.ok (by simp)⟩

set_option maxHeartbeats 2000000 in
theorem fault_any (q : Nat) (page kind : Int) (user th bad : Bool) (t : Nat) (w : World) (ht : stopOf kind user t = (1, codeN kind user th bad)) :
    Calls Tryz.prog 52 #[.agg (accV q page kind user), .bool th, .bool bad] w fun e w' => e = .returned (errO kind user (some t)) ∧ Chg [] w w' := by
  have hr : errO kind user (some t) = stopV (1, codeN kind user th bad) := by simp only [errO, ht]
  rw [hr]
  unfold accV stopV
  have C1 := fun w => Code_any kind user th bad w
  generalize codeN kind user th bad = c at *
  go_enter Tryz.func52, Tryz.ntmps52
  go_wp2_with fail
  refine (C1 _).mono ?_; rintro e w1 ⟨rfl, rfl⟩
  go_wp2_with fail
  go_ret
  exact ⟨rfl, (Chg.refl [] w).alloc _⟩

end Go.Proofs.YtdfmlodmaipnkaaGreatDoor
