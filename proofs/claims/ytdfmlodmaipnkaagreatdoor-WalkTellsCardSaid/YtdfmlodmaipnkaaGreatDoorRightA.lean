/-
  Rights; the contracts of right's Of, All, Meet, Under.
-/
import Derived.Test.YtdfmlodmaipnkaaGreatDoorFields
import Derived.Test.YtdfmlodmaipnkaaGreatDoorCls
import Derived.Laws.StructEq
import Derived.Test.YtdfmlodmaipnkaaGreatDoorProg
namespace Go.Proofs.YtdfmlodmaipnkaaGreatDoor
open Go.RowKit

/-- a right -/
structure Rg where
  w : Bool
  u : Bool
  x : Bool
/-- its three cells -/
def Rg.cs (r : Rg) : Array Value := #[.bool r.w, .bool r.u, .bool r.x]
theorem Rg.ext_ {a b : Rg} (h1 : a.w = b.w) (h2 : a.u = b.u) (h3 : a.x = b.x) : a = b := by
  cases a; cases b; simp at h1 h2 h3; simp [h1, h2, h3]
def Rg.eqb (a b : Rg) : Bool := a.w == b.w && (a.u == b.u && a.x == b.x)
theorem Rg.eqb_iff (a b : Rg) : a.eqb b = true ↔ a = b := by
  simp only [Rg.eqb, Bool.and_eq_true, beq_iff_eq]
  constructor
  · rintro ⟨h1, h2, h3⟩; exact Rg.ext_ h1 h2 h3
  · rintro rfl; simp
theorem Rg.eqb_self (a : Rg) : a.eqb a = true := (Rg.eqb_iff a a).2 rfl

set_option maxRecDepth 100000 in
theorem run_eqR (a b : Rg) (w : World) : (binOp .eql 30 (.agg a.cs) (.agg b.cs)).run Tryz.prog w = .ok (.bool (a.eqb b)) w := by
  have h : (Op.equalIn 10000 30 (.agg a.cs) (.agg b.cs)).run Tryz.prog w = .ok (a.eqb b) w := by
    rw [run_equalIn_struct w 9999 _ _ _ (by kernel_rfl) (by kernel_rfl)]
    simp only [Program.fieldsOf, Tryz.underlying30]
    exact (fields_bool (by decide) rfl (part_bool w _ Tryz.underlying4 a.cs 0 a.w rfl) (part_bool w _ Tryz.underlying4 b.cs 0 b.w rfl) (fields_bool (by decide) rfl (part_bool w _ Tryz.underlying4 a.cs 1 a.u rfl) (part_bool w _ Tryz.underlying4 b.cs 1 b.u rfl) (fields_last (by decide) rfl (part_bool w _ Tryz.underlying4 a.cs 2 a.x rfl) (part_bool w _ Tryz.underlying4 b.cs 2 b.x rfl) fields_nil)))
  rw [run_eql_struct, h]; rfl

/-- a slice of rights reads as this list -/
structure SlR (w : World) (A : Option Addr) (n : Nat) (L : List Rg) : Prop where
  len : L.length = n
  at_ : 0 < n → ∃ b off, A = some ⟨b, off, none⟩ ∧ b < w.heap.size ∧ ∀ j r, L[j]? = some r → w.cell? ⟨b, off + j * 3 + 0, none⟩ = some (.bool r.w) ∧ w.cell? ⟨b, off + j * 3 + 1, none⟩ = some (.bool r.u) ∧ w.cell? ⟨b, off + j * 3 + 2, none⟩ = some (.bool r.x)
theorem SlR.chg {S : List Nat} {w w' : World} {A : Option Addr} {n : Nat} {L : List Rg} (h : SlR w A n L) (hc : Chg S w w') (hn : ∀ b off, A = some ⟨b, off, none⟩ → b ∉ S) : SlR w' A n L :=
  ⟨h.len, fun h0 => by
    obtain ⟨b, off, rfl, hb, hr⟩ := h.at_ h0
    refine ⟨b, off, rfl, Nat.lt_of_lt_of_le hb hc.size, fun j r hj => ?_⟩
    obtain ⟨h1, h2, h3⟩ := hr j r hj
    exact ⟨(hc.cell (p := ⟨b, _, none⟩) hb (hn b off rfl)).trans h1, (hc.cell (p := ⟨b, _, none⟩) hb (hn b off rfl)).trans h2, (hc.cell (p := ⟨b, _, none⟩) hb (hn b off rfl)).trans h3⟩⟩
theorem SlR.new {w w' : World} {A : Option Addr} {n : Nat} {L : List Rg} (h : SlR w A n L) (hc : Chg [] w w') : SlR w' A n L := h.chg hc (by simp)
theorem SlR.get {w : World} {A : Option Addr} {n : Nat} {L : List Rg} (h : SlR w A n L) {k : Nat} (hk : k < n) :
    ∃ b off r, A = some ⟨b, off, none⟩ ∧ b < w.heap.size ∧ L[k]? = some r ∧ w.cell? ⟨b, off + k * 3, none⟩ = some (.bool r.w) ∧ w.cell? ⟨b, off + k * 3 + 1, none⟩ = some (.bool r.u) ∧ w.cell? ⟨b, off + k * 3 + 2, none⟩ = some (.bool r.x) := by
  obtain ⟨b, off, e, hb, hr⟩ := h.at_ (by omega)
  have hl := h.len
  have hj : L[k]? = some (L[k]'(by omega)) := List.getElem?_eq_getElem (by omega)
  obtain ⟨h1, h2, h3⟩ := hr k _ hj
  exact ⟨b, off, _, e, hb, hj, h1, h2, h3⟩

def Rg.all : Rg := ⟨true, true, true⟩
def Rg.and (a b : Rg) : Rg := ⟨a.w && b.w, a.u && b.u, a.x && b.x⟩
/-- what all of a list permit -/
def meetL (L : List Rg) : Rg := ⟨L.all (·.w), L.all (·.u), L.all (·.x)⟩
theorem meet_nil : meetL [] = Rg.all := rfl
theorem meet_snoc {L : List Rg} {k : Nat} {r : Rg} (h : L[k]? = some r) : meetL (L.take (k + 1)) = (meetL (L.take k)).and r := by
  have hk := (List.getElem?_eq_some_iff.1 h).1
  have he := (List.getElem?_eq_some_iff.1 h).2
  rw [List.take_succ_eq_append_getElem hk, he]
  simp [meetL, Rg.and]
/-- has b all that a has? -/
def under (a b : Rg) : Bool := (a.and b).eqb a

set_option maxHeartbeats 400000 in
theorem All_any (w : World) : Calls Tryz.prog 66 #[] w fun e w' => e = .returned (.agg Rg.all.cs) ∧ Chg [] w w' := by
  go_enter Tryz.func66, Tryz.ntmps66
  go_wp2_with fail
  try simp only [Exit.inBlock, Exit.then]
  refine bodyPost_ret (cell_ret rfl (Blk.new _ _ _) rfl Tryz.underlying30 rfl (by kernel_rfl)) rfl ?_
  exact ⟨rfl, (Chg.refl [] w).alloc _⟩

set_option maxRecDepth 100000 in
set_option maxHeartbeats 2000000 in
theorem Meet_any (A : Option Addr) (n c : Nat) (L : List Rg) (w : World) (h : SlR w A n L) (hn : n ≤ 9223372036854775807) :
    Calls Tryz.prog 68 #[.slice A n c] w fun e w' => e = .returned (.agg (meetL L).cs) ∧ Chg [] w w' := by
  have hlen := h.len
  have C1 := fun w => All_any w
  simp only [Rg.cs, Rg.all] at C1
  go_enter Tryz.func68, Tryz.ntmps68
  go_wp2_with fail
  refine (C1 _).mono ?_; rintro e w1 ⟨rfl, hc1⟩
  have hR := (Blk.new w 30 #[.bool false, .bool false, .bool false]).chg_ hc1 (by simp)
  have hcR := ((Chg.refl [] w).alloc (Obj.cells #[.bool false, .bool false, .bool false] 30)).trans hc1 (by simp)
  have hrz : w.heap.size < w1.heap.size := hR.lt
  generalize hg : w.heap.size = g at *
  clear hc1
  go_wp2_with fail
  go_loopw [9] (fun i w' => ∃ k : Nat, k ≤ n ∧ i = .int .i64 k ∧ Chg [] w w' ∧ Blk w' g 30 #[.bool false, .bool false, .bool false] ∧ Blk w' w1.heap.size 30 (meetL (L.take k)).cs) (fun i _ => n - (intOf i).toNat)
  case atStart =>
    exact ⟨0, by omega, rfl, hcR.alloc _, hR.alloc _, Blk.new _ _ _⟩
  case round =>
    clear hcR hR
    obtain ⟨k, hk, rfl, hcR, hR, hM⟩ := hrel
    by_cases hlt : k < n
    · obtain ⟨b, off, r, rfl, hb, hr, e0, e1, e2⟩ := (h.new hcR).get hlt
      have hm := meet_snoc hr
      have HM := Lib.hid hm
      clear hm hr h C1 hlen
      obtain ⟨m0, m1, m2⟩ := blk3 hM
      have hbm : b ≠ w1.heap.size ∨ b = w1.heap.size := by omega
      generalize hmt : meetL (L.take k) = m at *
      obtain ⟨mw, mu, mx⟩ := m
      have HMT := Lib.hid hmt
      clear hmt hbm
      have hgz : w1.heap.size < wr.heap.size := hM.lt
      simp only at e0 e1 e2 m0 m1 m2
      have fz0 := hM.frozen 0; have fz1 := hM.frozen 1; have fz2 := hM.frozen 2
      cases mw <;> cases mu <;> cases mx
      all_goals
        go_wp2_with fail
        go_roundw
        case rel =>
          refine ⟨k + 1, by omega, by go_num, (((hcR.setCell (p := ⟨w1.heap.size, 0, none⟩) ?_ _).setCell (p := ⟨w1.heap.size, 1, none⟩) ?_ _).setCell (p := ⟨w1.heap.size, 2, none⟩) ?_ _).alloc _, (((hR.far (p := ⟨w1.heap.size, 0, none⟩) ?_ _).far (p := ⟨w1.heap.size, 1, none⟩) ?_ _).far (p := ⟨w1.heap.size, 2, none⟩) ?_ _).alloc _, ?_⟩
          · intro hh; simp only at hh; omega
          · intro hh; simp only at hh; omega
          · intro hh; simp only at hh; omega
          · simp only; omega
          · simp only; omega
          · simp only; omega
          · rw [HM.out]; exact ((((hM.set_ 0 _).set_ 1 _).set_ 2 _).alloc _)
        case measure => simp [intOf]; omega
    · obtain rfl : k = n := by omega
      have hl := h.len
      rw [← hl, List.take_length] at hM
      clear h C1 hlen hl
      obtain ⟨m0, m1, m2⟩ := blk3 hM
      obtain ⟨q0, q1, q2⟩ := blk3 hR
      have fz0 := hR.frozen 0; have fz1 := hR.frozen 1; have fz2 := hR.frozen 2
      go_wp2_with fail
      try simp only [Exit.inBlock, Exit.then]
      have hR2 := ((hR.set_ 0 (.bool (meetL L).w)).set_ 1 (.bool (meetL L).u)).set_ 2 (.bool (meetL L).x)
      refine bodyPost_ret (cell_ret rfl hR2 rfl Tryz.underlying30 rfl (by kernel_rfl)) rfl ?_
      refine ⟨rfl, ((hcR.setCell (p := ⟨g, 0, none⟩) ?_ _).setCell (p := ⟨g, 1, none⟩) ?_ _).setCell (p := ⟨g, 2, none⟩) ?_ _⟩
      · intro hh; simp only at hh; omega
      · intro hh; simp only at hh; omega
      · intro hh; simp only at hh; omega

/-- a slice that was made of rights, as an argument -/
theorem SlR.made {w : World} {g n : Nat} {t : TypeId} {cs : Array Value} (L : List Rg) (hb : Blk w g t cs) (hl : L.length = n) (h : ∀ j r, L[j]? = some r → cs[j * 3 + 0]? = some (.bool r.w) ∧ cs[j * 3 + 1]? = some (.bool r.u) ∧ cs[j * 3 + 2]? = some (.bool r.x)) : SlR w (some ⟨g, 0, none⟩) n L :=
  ⟨hl, fun _ => ⟨g, 0, rfl, hb.lt, fun j r hj => by
    obtain ⟨h1, h2, h3⟩ := h j r hj
    rw [Nat.zero_add, hb.cell, hb.cell, hb.cell]
    exact ⟨h1, h2, h3⟩⟩⟩
theorem SlR.made2 {w : World} {g : Nat} {t : TypeId} (a b : Rg) (hb : Blk w g t #[.bool a.w, .bool a.u, .bool a.x, .bool b.w, .bool b.u, .bool b.x]) : SlR w (some ⟨g, 0, none⟩) 2 [a, b] := by
  refine SlR.made _ hb rfl fun j r hj => ?_
  match j with
  | 0 => obtain rfl : a = r := by simpa using hj
         exact ⟨rfl, rfl, rfl⟩
  | 1 => obtain rfl : b = r := by simpa using hj
         exact ⟨rfl, rfl, rfl⟩
  | j + 2 => simp at hj
theorem SlR.made1 {w : World} {g : Nat} {t : TypeId} (a : Rg) (hb : Blk w g t #[.bool a.w, .bool a.u, .bool a.x]) : SlR w (some ⟨g, 0, none⟩) 1 [a] := by
  refine SlR.made _ hb rfl fun j r hj => ?_
  match j with
  | 0 => obtain rfl : a = r := by simpa using hj
         exact ⟨rfl, rfl, rfl⟩
  | j + 1 => simp at hj
theorem meet2 (a b : Rg) : meetL [a, b] = a.and b := by simp [meetL, Rg.and]
theorem meet1 (a : Rg) : meetL [a] = a := by simp [meetL]

end Go.Proofs.YtdfmlodmaipnkaaGreatDoor
