/-
  gmap's New, at all arguments; the document's map.
-/
import Derived.Test.YtdfmlodmaipnkaaGreatDoorGmapB
import Derived.Deep.QuietTactic
namespace Go.Proofs.YtdfmlodmaipnkaaGreatDoor
open Go.RowKit Go.Maps

set_option maxHeartbeats 1000000 in
theorem GNew_out (A : Option Addr) (n c : Nat) (fr : Int) (w : World) (h : n < 1 ∨ 64 < n ∨ fr < 1 ∨ 256 < fr) (hn : n ≤ 9223372036854775807) :
    Calls Tryz.prog 19 #[.slice A n c, .int .i64 fr] w fun e w' => e = .returned (.pointer none) ∧ w = w' := by
  by_cases h1 : n < 1
  · clear h
    have h1' : (n : Int) < 1 := by omega
    go_enter Tryz.func19, Tryz.ntmps19
    go_wp2
    all_goals go_ret
    all_goals exact ⟨rfl, rfl⟩
  · have h1' : ¬ (n : Int) < 1 := by omega
    by_cases h2 : 64 < n
    · clear h
      have h2' : (64 : Int) < (n : Int) := by omega
      go_enter Tryz.func19, Tryz.ntmps19
      go_wp2
      all_goals go_ret
      all_goals exact ⟨rfl, rfl⟩
    · have h2' : ¬ (64 : Int) < (n : Int) := by omega
      by_cases h3 : fr < 1
      · clear h
        go_enter Tryz.func19, Tryz.ntmps19
        go_wp2
        all_goals go_ret
        all_goals exact ⟨rfl, rfl⟩
      · have h4 : 256 < fr := by omega
        clear h
        go_enter Tryz.func19, Tryz.ntmps19
        go_wp2
        all_goals go_ret
        all_goals exact ⟨rfl, rfl⟩

/-- what New answers -/
def NewEnd (At : World → List Nat → Nat → List Int → Prop) (L : List Int) (fr : Int) (w : World) (e : Ending) (w' : World) : Prop :=
  (e = .returned (.pointer none) ∧ Chg [] w w' ∧ ¬ OkL L fr) ∨ ∃ p S, e = .returned (.pointer (some ⟨p, 0, none⟩)) ∧ Chg [] w w' ∧ At w' S p L ∧ (∀ i ∈ S, w.heap.size ≤ i) ∧ OkL L fr

theorem GNew_at (A : Option Addr) (n c : Nat) (L : List Int) (fr : Int) (w : World) (h : SlK .i64 w A n L) :
    Calls Tryz.prog 19 #[.slice A n c, .int .i64 fr] w (NewEnd GAt L fr w) := by
  by_cases hin : (1 ≤ n ∧ n ≤ 64) ∧ (1 ≤ fr ∧ fr ≤ 256)
  · exact GNew_in A n c L fr w h hin.1 hin.2
  · refine (GNew_out A n c fr w (by omega) h.le).mono fun e w' he => .inl ⟨he.1, he.2 ▸ Chg.refl _ _, ?_⟩
    rintro ⟨k1, k2, k3, k4, _⟩
    have := h.len
    omega
theorem GNew_ok (A : Option Addr) (n c : Nat) (L : List Int) (fr : Int) (w : World) (h : SlK .i64 w A n L) (hok : OkL L fr) :
    Calls Tryz.prog 19 #[.slice A n c, .int .i64 fr] w fun e w' => ∃ p S, e = .returned (.pointer (some ⟨p, 0, none⟩)) ∧ Chg [] w w' ∧ GAt w' S p L ∧ ∀ i ∈ S, w.heap.size ≤ i :=
  (GNew_at A n c L fr w h).mono fun _ _ he => he.elim (fun k => absurd hok k.2.2) fun ⟨p, S, k1, k2, k3, k4, _⟩ => ⟨p, S, k1, k2, k3, k4⟩
theorem GNew_no (A : Option Addr) (n c : Nat) (L : List Int) (fr : Int) (w : World) (h : SlK .i64 w A n L) (hok : ¬ OkL L fr) :
    Calls Tryz.prog 19 #[.slice A n c, .int .i64 fr] w fun e w' => e = .returned (.pointer none) ∧ Chg [] w w' :=
  (GNew_at A n c L fr w h).mono fun _ _ he => he.elim (fun k => ⟨k.1, k.2.1⟩) fun ⟨_, _, _, _, _, _, k5⟩ => absurd k5 hok

end Go.Proofs.YtdfmlodmaipnkaaGreatDoor
