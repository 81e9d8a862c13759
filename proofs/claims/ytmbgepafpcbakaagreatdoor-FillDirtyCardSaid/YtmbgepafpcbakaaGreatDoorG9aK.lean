/-
 TlbA, TlbB, TlbC, TlbD, TlbE, TlbF, TlbG, TlbH, TlbI in one text.
-/
import Derived.Test.YtmbgepafpcbakaaGreatDoorG0K
import Derived.Lib.SliceRun
import Derived.Deep.RegionLaw
import Derived.Deep.LoopGhost
import Derived.Test.YtmbgepafpcbakaaGreatDoorProg
import Derived.Shelf.Abstract
namespace Go.Proofs.YtmbgepafpcbakaaGreatDoor
open Go.RowKit
structure Ht where
 a : Int
 p : Int
 f : Int
 w : Bool
 u : Bool
 x : Bool
 d : Bool
def Ht.cl (h : Ht) : List Value := [.int .i64 h.a, .int .i64 h.p, .int .i64 h.f, .bool h.w, .bool h.u, .bool h.x, .bool h.d]
def Ht.zero : Ht := ⟨0, 0, 0, false, false, false, false⟩
theorem Ht.ext_ {a b : Ht} (h1 : a.a = b.a) (h2 : a.p = b.p) (h3 : a.f = b.f) (h4 : a.w = b.w) (h5 : a.u = b.u) (h6 : a.x = b.x) (h7 : a.d = b.d) : a = b := by
 cases a; cases b; simp at h1 h2 h3 h4 h5 h6 h7; simp [h1, h2, h3, h4, h5, h6, h7]
def Ht.eqb (a b : Ht) : Bool := a.a == b.a && (a.p == b.p && (a.f == b.f && ((a.w == b.w && (a.u == b.u && a.x == b.x)) && a.d == b.d)))
theorem Ht.eqb_iff (a b : Ht) : a.eqb b = true ↔ a = b := by
 simp only [Ht.eqb, Bool.and_eq_true, beq_iff_eq]
 constructor
 ·rintro ⟨h1, h2, h3, ⟨h4, h5, h6⟩, h7⟩; exact Ht.ext_ h1 h2 h3 h4 h5 h6 h7
 rintro rfl; simp
instance Ht.dec : DecidableEq Ht := fun a b => decidable_of_iff _ (Ht.eqb_iff a b)
instance Ht.inh : Inhabited Ht := ⟨Ht.zero⟩
def Ht.isK (h : Ht) (a p : Int) : Bool := h.a == a && h.p == p
def encH (L : List Ht) : List Value := L.flatMap Ht.cl
theorem encH_oneCell (L : List Ht) : ∀ u ∈ encH L, u.oneCell' = true := by
 intro u hu
 unfold encH at hu
 rw [List.mem_flatMap] at hu
 obtain ⟨h, _, hu⟩ := hu
 simp only [Ht.cl, List.mem_cons, List.not_mem_nil, or_false] at hu
 rcases hu with rfl | rfl | rfl | rfl | rfl | rfl | rfl <;> rfl
def OwnH (w : World) (v : Value) (L : List Ht) : Prop := w.ownsRow 0 56 7 v L.length (encH L)
section
variable {w w' : World} {v : Value} {L : List Ht}
theorem OwnH.none_ (w : World) : OwnH w (.slice none 0 0) [] := World.ownsRow_nil _ _ _ _
theorem OwnH.chg {S : List Nat} (h : OwnH w v L) (hc : Chg S w w') (hn : ∀ g ∈ v.ownBlock.toList, g ∉ S) : OwnH w' v L := own_chg h hc fun g hg => hn g (by simp [hg])
theorem OwnH.lt (h : OwnH w v L) : ∀ g ∈ v.ownBlock.toList, g < w.heap.size := fun g hg => (World.ownsRow.lt h g (by simpa using hg)).2
end
end Go.Proofs.YtmbgepafpcbakaaGreatDoor
namespace Go.Proofs.YtmbgepafpcbakaaGreatDoor
open Go.RowKit Go.Shelf
def KeyN (L : List Ht) : Prop := L.Pairwise fun x y => y.isK x.a x.p = false
structure TIn (w : World) (p most : Nat) (v : Value) (L : List Ht) : Prop where
 st : Blk w p 127 #[.int .i64 most, v]
 ow : OwnH w v L
 le : L.length ≤ most
 lo : 1 ≤ most
 hi : most ≤ 512
 nd : KeyN L
def TAt (w : World) (S : List Nat) (p most : Nat) (L : List Ht) : Prop := ∃ v, TIn w p most v L ∧ S = p :: v.ownBlock.toList
section
variable {w w' : World} {S T : List Nat} {p most : Nat} {v : Value} {L : List Ht}
theorem TIn.chg (h : TIn w p most v L) (hc : Chg T w w') (hp : p ∉ T) (hg : ∀ g ∈ v.ownBlock.toList, g ∉ T) : TIn w' p most v L :=
 ⟨hc.blk h.st hp, h.ow.chg hc hg, h.le, h.lo, h.hi, h.nd⟩
theorem TIn.c (h : TIn w p most v L) : w.cell? ⟨p, 0, none⟩ = some (.int .i64 most) ∧ w.cell? ⟨p, 1, none⟩ = some v := by
 have h0 := h.st.cell 0; have h1 := h.st.cell 1
 simp only [qA, qS, qZ] at h0 h1
 exact ⟨h0, h1⟩
theorem TAt.chg (h : TAt w S p most L) (hc : Chg T w w') (hd : ∀ i ∈ S, i ∉ T) : TAt w' S p most L := by
 obtain ⟨v, h, rfl⟩ := h
 exact ⟨v, h.chg hc (hd p (by simp)) (fun g hg => hd g (by simp only [List.mem_cons]; exact .inr hg)), rfl⟩
theorem TAt.lt (h : TAt w S p most L) : ∀ i ∈ S, i < w.heap.size := by
 obtain ⟨v, h, rfl⟩ := h
 intro i hi
 simp only [List.mem_cons] at hi
 rcases hi with rfl | hi
 ·exact h.st.lt
 exact h.ow.lt i hi
end
set_option maxHeartbeats 400000 in
theorem TNew_in (n : Nat) (w : World) (h1 : 1 ≤ n) (h2 : n ≤ 512) :
  Calls Tryz.prog 33 #[.int .i64 n] w fun e w' => e = .returned (.pointer (some ⟨w.heap.size, 0, none⟩)) ∧ Chg [] w w' ∧ TAt w' [w.heap.size] w.heap.size n [] := by
 have e1 : ¬ (n : Int) < 1 := by omega
 have e2 : ¬ (n : Int) > 512 := by omega
 go_enter Tryz.func33, Tryz.ntmps33
 go_wp2
 all_goals go_ret
 all_goals exact ⟨rfl, (Chg.refl _ _).alloc _, .slice none 0 0, ⟨Blk.new w 127 #[.int .i64 n, .slice none 0 0], OwnH.none_ _, by simp, h1, h2, List.Pairwise.nil⟩, rfl⟩
set_option maxHeartbeats 400000 in
theorem TAll_at (S : List Nat) (p most : Nat) (L : List Ht) (w : World) (h : TAt w S p most L) :
  Calls Tryz.prog 114 #[.pointer (some ⟨p, 0, none⟩)] w fun e w' => ∃ S', e = .returned (.tuple #[]) ∧ Chg S w w' ∧ TAt w' S' p most [] ∧ Grew w S S' := by
 obtain ⟨v, h, rfl⟩ := h
 obtain ⟨c0, c1⟩ := h.c
 have f1 := h.st.frozen 1
 go_enter Tryz.func114, Tryz.ntmps114
 go_wp2
 go_end0
 refine ⟨[p], rfl, (Chg.refl _ _).setCell (by simp) _, ⟨.slice none 0 0, ⟨?_, OwnH.none_ _, by simp, h.lo, h.hi, List.Pairwise.nil⟩, rfl⟩, fun i hi => .inl (by simp at hi; subst hi; simp)⟩
 exact h.st.set_ 1 _
end Go.Proofs.YtmbgepafpcbakaaGreatDoor
