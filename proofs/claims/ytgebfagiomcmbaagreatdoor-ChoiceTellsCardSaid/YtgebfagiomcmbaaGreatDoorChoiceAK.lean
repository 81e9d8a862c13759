/-
  Choices as cells and slices; the contracts of choice's small functions.
-/
import Derived.Test.YtgebfagiomcmbaaGreatDoorChoicePK
import Derived.Test.YtgebfagiomcmbaaGreatDoorRowGK
import Derived.Test.YtgebfagiomcmbaaGreatDoorG0K
namespace Go.Proofs.YtgebfagiomcmbaaGreatDoor
open Go.RowKit Go.Shelf

def chE : Enc Ch := ⟨Ch.cl, 2, by decide, fun _ => rfl, fun x u hu => by simp only [Ch.cl, List.mem_cons, List.not_mem_nil, or_false] at hu; rcases hu with rfl | rfl <;> rfl⟩
/-- the cells of a choice -/
def Ch.ar (c : Ch) : Array Value := #[.bool c.fill, .int .i64 c.page]
theorem SlC.get {w : World} {A : Option Addr} {n : Nat} {l : List Ch} (h : SlG chE w A n l) {k : Nat} (hk : k < n) :
    ∃ b off x, A = some ⟨b, off, none⟩ ∧ b < w.heap.size ∧ l[k]? = some x ∧ w.cell? ⟨b, off + k * 2, none⟩ = some (.bool x.fill) ∧ w.cell? ⟨b, off + k * 2 + 1, none⟩ = some (.int .i64 x.page) := by
  obtain ⟨b, off, x, e, hb, hx, hc⟩ := h.get hk
  exact ⟨b, off, x, e, hb, hx, hc 0 _ rfl, hc 1 _ rfl⟩
theorem blk2 {w : World} {g : Nat} {t : TypeId} {x0 x1 : Value} (h : Blk w g t #[x0, x1]) : w.cell? ⟨g, 0, none⟩ = some x0 ∧ w.cell? ⟨g, 1, none⟩ = some x1 := ⟨h.cell 0, h.cell 1⟩

theorem set2 {w : World} {g : Nat} {t : TypeId} {x0 x1 y0 y1 : Value} (h : Blk w g t #[x0, x1]) : Blk ((w.setCell ⟨g, 0, none⟩ y0).setCell ⟨g, 1, none⟩ y1) g t #[y0, y1] := by
  have := (h.set_ 0 y0).set_ 1 y1; simpa using this
theorem chg2 {S : List Nat} {a w : World} {g : Nat} {y0 y1 : Value} (h : Chg S a w) (hg : g < a.heap.size → g ∈ S) : Chg S a ((w.setCell ⟨g, 0, none⟩ y0).setCell ⟨g, 1, none⟩ y1) := (h.setCell (p := ⟨g, 0, none⟩) hg y0).setCell (p := ⟨g, 1, none⟩) hg y1

set_option maxRecDepth 100000 in
theorem ChRight_any (f : Bool) (p : Int) (w : World) : Calls Tryz.prog 32 #[.agg #[.bool f, .int .i64 p]] w fun e w' => e = .returned (.bool (Ch.ok ⟨f, p⟩)) ∧ Chg [] w w' := by
  have hb := Blk.new w 56 #[.bool f, .int .i64 p]
  have hc : Chg [] w (w.alloc (.cells #[.bool f, .int .i64 p] 56)) := (Chg.refl [] w).alloc _
  obtain ⟨c0, c1⟩ := blk2 hb
  have e : Ch.ok ⟨f, p⟩ = (decide (p ≥ 0) && decide (p < 512)) := by unfold Ch.ok; simp
  rw [e]
  clear e
  cases h0 : decide (p ≥ 0) <;> cases h1 : decide (p < 512)
  all_goals
    go_enter Tryz.func32, Tryz.ntmps32
    go_wp2_with fail
    go_ret
    exact ⟨rfl, hc⟩

set_option maxRecDepth 100000 in
theorem ChDoes_any (m : Nat) (f : Bool) (w : World) : Calls Tryz.prog 64 #[.pointer (some ⟨m, 0, none⟩), .bool f] w fun e w' =>
    e = .returned (.func (.func (if f then 31 else 100)) #[.pointer (some ⟨m, 0, none⟩)] #[]) ∧ Chg [] w w' := by
  have hmf : ∀ (fn : Fn) (first cap : Array Value) (w : World), (Instr.makeFunc fn first cap).run Tryz.prog w = .ok (.func fn first cap) w := fun _ _ _ _ => rfl
  cases f
  all_goals
    go_enter Tryz.func64, Tryz.ntmps64
    go_wp2_with fail
    go_ret
    exact ⟨rfl, Chg.refl _ _⟩

/-- what the bytes of one tell -/
def Ch.num (c : Ch) : Int := c.page + if c.fill then 32768 else 0
set_option maxRecDepth 100000 in
theorem ChNum_any (f : Bool) (p : Int) (w : World) (hk : Ch.ok ⟨f, p⟩ = true) : Calls Tryz.prog 74 #[.agg #[.bool f, .int .i64 p]] w fun e w' => e = .returned (.int .i64 (Ch.num ⟨f, p⟩)) ∧ Chg [] w w' := by
  have hb := Blk.new w 56 #[.bool f, .int .i64 p]
  have hc : Chg [] w (w.alloc (.cells #[.bool f, .int .i64 p] 56)) := (Chg.refl [] w).alloc _
  obtain ⟨c0, c1⟩ := blk2 hb
  unfold Ch.ok at hk; rw [decide_eq_true_eq] at hk; simp only at hk
  have hw : wrap64 (p + 32768) = p + 32768 := by unfold wrap64; omega
  clear hk
  cases f
  all_goals
    go_enter Tryz.func74, Tryz.ntmps74
    go_wp2_with fail
    go_ret
    exact ⟨by simp [Ch.num, hw], hc⟩

theorem i64_or16 (a b : Int) (ha : 0 ≤ a ∧ a < 256) (hb : 0 ≤ b ∧ b < 256) : bits .or .i64 (a * 256) b = a * 256 + b := by
  obtain ⟨A, rfl⟩ := Int.eq_ofNat_of_zero_le ha.1
  obtain ⟨B, rfl⟩ := Int.eq_ofNat_of_zero_le hb.1
  have e1 : ((A : Int) * 256) = ((A * 256 : Nat) : Int) := by omega
  rw [e1]
  show IntKind.i64.wrap ((BitVec.ofInt 64 ((A * 256 : Nat) : Int) ||| BitVec.ofInt 64 (B : Int)).toNat : Nat) = _
  rw [BitVec.toNat_or, BitVec.ofInt_natCast, BitVec.ofInt_natCast, BitVec.toNat_ofNat, BitVec.toNat_ofNat, Nat.mod_eq_of_lt (by omega), Nat.mod_eq_of_lt (by omega), Nat.mul_comm]
  have := Nat.two_pow_add_eq_or_of_lt (i := 8) (b := B) (by omega) A
  rw [show (256 : Nat) = 2 ^ 8 from rfl, ← this, IntKind.wrap_i64]
  omega
set_option maxRecDepth 100000 in
theorem ChRead_any (a b : Int) (w : World) (ha : 0 ≤ a ∧ a < 256) (hb : 0 ≤ b ∧ b < 256) : Calls Tryz.prog 65 #[.int .u8 a, .int .u8 b] w fun e w' => e = .returned (.agg (unC a b).ar) ∧ Chg [] w w' := by
  have ho := i64_or16 a b ha hb
  have hbk := Blk.new w 56 (unC a b).ar
  have hc : Chg [] w (w.alloc (.cells (unC a b).ar 56)) := (Chg.refl [] w).alloc _
  have e : (unC a b).ar = #[.bool (decide (32768 ≤ a * 256 + b)), .int .i64 ((a * 256 + b) % 32768)] := by
    unfold Ch.ar unC
    have h1 : decide (128 ≤ a) = decide (32768 ≤ a * 256 + b) := decide_eq_decide.2 (by omega)
    have h2 : 256 * (a % 128) + b = (a * 256 + b) % 32768 := by omega
    simp only [h1, h2]
  rw [e] at hbk hc ⊢
  go_enter Tryz.func65, Tryz.ntmps65
  go_wp2_with fail
  exact bodyPost_ret (cell_ret rfl hbk rfl Tryz.underlying56 rfl (by kernel_rfl)) rfl ⟨rfl, hc⟩

end Go.Proofs.YtgebfagiomcmbaaGreatDoor
