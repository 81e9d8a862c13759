/-
  Operations as cells and slices; the contracts of script's small functions.
-/
import Derived.Test.YtdmcicgappgiiaaScriptQ
import Derived.Test.YtdmcicgappgiiaaG0
import Derived.Lib.OthersKept
namespace Go.Proofs.Ytdmcicgappgiiaa
open Go.RowKit Go.Shelf

def opE : Enc Sop := ⟨Sop.cl, 7, by decide, fun _ => rfl, fun x u hu => by simp only [Sop.cl, List.mem_cons, List.not_mem_nil, or_false] at hu; rcases hu with rfl | rfl | rfl | rfl | rfl | rfl | rfl <;> rfl⟩
/-- the cells of an operation -/
def Sop.ar (o : Sop) : Array Value := #[.int .i64 o.what, .bool o.user, .int .u64 o.a, .int .u64 o.v, .int .i64 o.g, .int .i64 o.i, .int .i64 o.n]
theorem SlS.get {w : World} {A : Option Addr} {n : Nat} {l : List Sop} (h : SlG opE w A n l) {k : Nat} (hk : k < n) :
    ∃ b off x, A = some ⟨b, off, none⟩ ∧ b < w.heap.size ∧ l[k]? = some x ∧ w.cell? ⟨b, off + k * 7, none⟩ = some (.int .i64 x.what) ∧ w.cell? ⟨b, off + k * 7 + 1, none⟩ = some (.bool x.user) ∧ w.cell? ⟨b, off + k * 7 + 2, none⟩ = some (.int .u64 x.a) ∧
      w.cell? ⟨b, off + k * 7 + 3, none⟩ = some (.int .u64 x.v) ∧ w.cell? ⟨b, off + k * 7 + 4, none⟩ = some (.int .i64 x.g) ∧ w.cell? ⟨b, off + k * 7 + 5, none⟩ = some (.int .i64 x.i) ∧ w.cell? ⟨b, off + k * 7 + 6, none⟩ = some (.int .i64 x.n) := by
  obtain ⟨b, off, x, e, hb, hx, hc⟩ := h.get hk
  exact ⟨b, off, x, e, hb, hx, hc 0 _ rfl, hc 1 _ rfl, hc 2 _ rfl, hc 3 _ rfl, hc 4 _ rfl, hc 5 _ rfl, hc 6 _ rfl⟩
theorem blk7 {w : World} {g : Nat} {t : TypeId} {x0 x1 x2 x3 x4 x5 x6 : Value} (h : Blk w g t #[x0, x1, x2, x3, x4, x5, x6]) : w.cell? ⟨g, 0, none⟩ = some x0 ∧ w.cell? ⟨g, 1, none⟩ = some x1 ∧ w.cell? ⟨g, 2, none⟩ = some x2 ∧ w.cell? ⟨g, 3, none⟩ = some x3 ∧ w.cell? ⟨g, 4, none⟩ = some x4 ∧ w.cell? ⟨g, 5, none⟩ = some x5 ∧ w.cell? ⟨g, 6, none⟩ = some x6 :=
  ⟨h.cell 0, h.cell 1, h.cell 2, h.cell 3, h.cell 4, h.cell 5, h.cell 6⟩
theorem blk7f {w : World} {g : Nat} {t : TypeId} {x0 x1 x2 x3 x4 x5 x6 : Value} (h : Blk w g t #[x0, x1, x2, x3, x4, x5, x6]) : w.frozen? ⟨g, 0, none⟩ = false ∧ w.frozen? ⟨g, 1, none⟩ = false ∧ w.frozen? ⟨g, 2, none⟩ = false ∧ w.frozen? ⟨g, 3, none⟩ = false ∧ w.frozen? ⟨g, 4, none⟩ = false ∧ w.frozen? ⟨g, 5, none⟩ = false ∧ w.frozen? ⟨g, 6, none⟩ = false :=
  ⟨h.frozen 0, h.frozen 1, h.frozen 2, h.frozen 3, h.frozen 4, h.frozen 5, h.frozen 6⟩

theorem partsB_0 : partsB 0 = ⟨#[85, 65]⟩ := by decide
theorem partsB_1 : partsB 1 = ⟨#[85, 65, 86]⟩ := by decide
theorem partsB_2 : partsB 2 = ⟨#[85, 65]⟩ := by decide
theorem partsB_3 : partsB 3 = ⟨#[65]⟩ := by decide
theorem partsB_4 : partsB 4 = ⟨#[71]⟩ := by decide
theorem partsB_5 : partsB 5 = ⟨#[71, 73, 86]⟩ := by decide
theorem partsB_6 : partsB 6 = ⟨#[78]⟩ := by decide
theorem partsB_7 : partsB 7 = ⟨#[65]⟩ := by decide
theorem partsB_8 : partsB 8 = ⟨#[78]⟩ := by decide
theorem partsB_none {x : Int} (h : ¬ (0 ≤ x ∧ x ≤ 8)) : partsB x = ⟨#[]⟩ := by
  unfold partsB partsC
  rw [if_neg (by omega), if_neg (by omega), if_neg (by omega), if_neg (by omega), if_neg (by omega), if_neg (by omega)]
  decide
theorem partsB_size (w : Int) : (partsB w).size = (partsC w).length := strOfNums_size _
/-- the letter at a place -/
theorem parts_dec {w : Int} {k : Nat} {c : Int} (h : (partsC w)[k]? = some c) : k < (partsB w).size ∧ Utf8.decode (partsB w) k = (c.toNat, 1) ∧ ((Utf8.decode (partsB w) k).1 : Int) = c := by
  have hk := (List.getElem?_eq_some_iff.1 h).1
  have hc := parts_is w c (List.mem_of_getElem? h)
  have hs : k < (partsB w).size := by rw [partsB_size]; exact hk
  have e : (partsB w)[k]'hs = UInt8.ofNat c.toNat := by
    have h1 : (partsB w).data.toList[k]? = some (UInt8.ofNat c.toNat) := by
      show (strOfNums (partsC w)).data.toList[k]? = _
      rw [strOfNums_data, List.getElem?_map, h]; rfl
    have h2 : (partsB w).data[k]? = some (UInt8.ofNat c.toNat) := by rw [← Array.getElem?_toList]; exact h1
    exact (Array.getElem?_eq_some_iff.1 h2).2
  have h3 : ((partsB w)[k]'hs).toNat = c.toNat := by
    rw [e]; simp only [UInt8.toNat_ofNat']; rcases hc with rfl | rfl | rfl | rfl | rfl | rfl <;> rfl
  have h4 : Utf8.decode (partsB w) k = (c.toNat, 1) := by
    rw [decode_ascii _ _ hs (by rw [h3]; rcases hc with rfl | rfl | rfl | rfl | rfl | rfl <;> decide), h3]
  exact ⟨hs, h4, by rw [h4]; rcases hc with rfl | rfl | rfl | rfl | rfl | rfl <;> rfl⟩

set_option maxRecDepth 100000 in
theorem ScIn_any (x m : Int) (w : World) : Calls Try.prog 22 #[.int .i64 x, .int .i64 m] w fun e w' => e = .returned (.bool (decide (0 ≤ x ∧ x < m))) ∧ w = w' := by
  have e : decide (0 ≤ x ∧ x < m) = (decide (x ≥ 0) && decide (x < m)) := by simp
  rw [e]
  clear e
  cases h0 : decide (x ≥ 0) <;> cases h1 : decide (x < m)
  all_goals
    go_enter Try.func22, Try.ntmps22
    go_wp2_with fail
    go_ret
    exact ⟨rfl, rfl⟩

set_option maxRecDepth 100000 in
theorem ScParts_any (x : Int) (w : World) : Calls Try.prog 25 #[.int .i64 x] w fun e w' => e = .returned (.string (partsB x)) ∧ w = w' := by
  by_cases hx : 0 ≤ x ∧ x ≤ 8
  · rcases what_cases hx.1 hx.2 with rfl | rfl | rfl | rfl | rfl | rfl | rfl | rfl | rfl
    all_goals
      clear hx
      go_enter Try.func25, Try.ntmps25
      go_wp2_with fail
      go_ret
      (first | rw [partsB_0] | rw [partsB_1] | rw [partsB_2] | rw [partsB_3] | rw [partsB_4] | rw [partsB_5] | rw [partsB_6] | rw [partsB_7] | rw [partsB_8])
      exact ⟨rfl, rfl⟩
  · rw [partsB_none hx]
    have h0 : (x == 0) = false := by simp; omega
    have h1 : (x == 1) = false := by simp; omega
    have h2 : (x == 2) = false := by simp; omega
    have h3 : (x == 3) = false := by simp; omega
    have h4 : (x == 4) = false := by simp; omega
    have h5 : (x == 5) = false := by simp; omega
    have h6 : (x == 6) = false := by simp; omega
    have h7 : (x == 7) = false := by simp; omega
    have h8 : (x == 8) = false := by simp; omega
    clear hx
    go_enter Try.func25, Try.ntmps25
    go_wp2_with fail
    go_ret
    exact ⟨rfl, rfl⟩

set_option maxRecDepth 100000 in
theorem ScSize_any {c : Int} (hc : isC c) (w : World) : Calls Try.prog 26 #[.int .i32 c] w fun e w' => e = .returned (.int .i64 (sizeC c : Nat)) ∧ w = w' := by
  rcases hc with rfl | rfl | rfl | rfl | rfl | rfl
  all_goals
    go_enter Try.func26, Try.ntmps26
    go_wp2_with fail
    go_ret
    exact ⟨rfl, rfl⟩

set_option maxRecDepth 100000 in
theorem ScValue_any (o : Sop) {c : Int} (hc : isC c) (hs : smallS o = true) (w : World) : Calls Try.prog 30 #[.agg o.ar, .int .i32 c] w fun e w' => e = .returned (.int .u64 (valueC o c)) ∧ Chg [] w w' := by
  obtain ⟨wt, u, a, v, g, i, n⟩ := o
  unfold smallS at hs
  simp only [Bool.and_eq_true, decide_eq_true_eq] at hs
  have hg : IntKind.u64.wrap g = g := by rw [IntKind.wrap_u64]; omega
  have hi : IntKind.u64.wrap i = i := by rw [IntKind.wrap_u64]; omega
  have hn : IntKind.u64.wrap n = n := by rw [IntKind.wrap_u64]; omega
  clear hs
  unfold Sop.ar
  have hb := Blk.new w 31 #[.int .i64 wt, .bool u, .int .u64 a, .int .u64 v, .int .i64 g, .int .i64 i, .int .i64 n]
  have hk : Chg [] w (w.alloc (.cells #[.int .i64 wt, .bool u, .int .u64 a, .int .u64 v, .int .i64 g, .int .i64 i, .int .i64 n] 31)) := (Chg.refl [] w).alloc _
  obtain ⟨c0, c1, c2, c3, c4, c5, c6⟩ := blk7 hb
  cases u
  all_goals
    rcases hc with rfl | rfl | rfl | rfl | rfl | rfl
    all_goals
      go_enter Try.func30, Try.ntmps30
      go_wp2_with fail
      go_ret
      exact ⟨by simp [valueC], hk⟩

theorem i64_small {v : Int} (h : 0 ≤ v ∧ v < 256) : IntKind.i64.wrap v = v := by rw [IntKind.wrap_i64]; omega
theorem blk_two (w : World) (o : Obj) (t : TypeId) (cs : Array Value) : Blk ((w.alloc o).alloc (.cells cs t)) (w.heap.size + 1) t cs := by have := Blk.new (w.alloc o) t cs; simpa using this
set_option maxRecDepth 100000 in
theorem ScWith_any (o : Sop) {c : Int} (hc : isC c) {v : Int} (hv : c = 71 ∨ c = 73 ∨ c = 78 → 0 ≤ v ∧ v < 256) (w : World) : Calls Try.prog 27 #[.agg o.ar, .int .i32 c, .int .u64 v] w fun e w' => e = .returned (.agg (withC o c v).ar) ∧ Chg [] w w' := by
  obtain ⟨wt, u, a, x, g, i, n⟩ := o
  unfold Sop.ar
  have hb := Blk.new w 31 #[.int .i64 wt, .bool u, .int .u64 a, .int .u64 x, .int .i64 g, .int .i64 i, .int .i64 n]
  have hk : Chg [] w (w.alloc (.cells #[.int .i64 wt, .bool u, .int .u64 a, .int .u64 x, .int .i64 g, .int .i64 i, .int .i64 n] 31)) := (Chg.refl [] w).alloc _
  clear hb hk
  rcases hc with rfl | rfl | rfl | rfl | rfl | rfl
  all_goals
    (try replace hv := i64_small (hv (by omega)))
    simp [withC]
    go_enter Try.func27, Try.ntmps27
    go_wp2_with fail
    exact bodyPost_ret (cell_ret rfl (blk_two _ _ _ _) rfl Try.underlying31 rfl (by kernel_rfl)) rfl ⟨rfl, ((Chg.refl [] w).alloc _).alloc _⟩

end Go.Proofs.Ytdmcicgappgiiaa
