/-
  The contracts of script.number, only and Right.
-/
import Derived.Test.YtdmcicgappgiiaaScriptA
import Derived.Deep.LoopGhost
namespace Go.Proofs.Ytdmcicgappgiiaa
open Go.RowKit Go.Shelf

theorem n8_snoc (L : List Int) (x : Int) : n8 (L ++ [x]) = 256 * n8 L + x := by simp [n8]
theorem n8_bound : ∀ (k : Nat) (L : List Int), L.length = k → (∀ x ∈ L, 0 ≤ x ∧ x < 256) → 0 ≤ n8 L ∧ n8 L < 256 ^ k
  | 0, L, h, _ => by rw [List.eq_nil_of_length_eq_zero h]; simp [n8]
  | k + 1, L, h, hr => by
    have hne : L ≠ [] := by intro e; subst e; simp at h
    have e := List.dropLast_concat_getLast hne
    have ih := n8_bound k L.dropLast (by simp; omega) (fun x hx => hr x (List.dropLast_subset _ hx))
    have hx := hr _ (List.getLast_mem hne)
    rw [← e, n8_snoc]
    have : (256 : Int) ^ (k + 1) = 256 * 256 ^ k := by rw [Int.pow_succ, Int.mul_comm]
    omega
theorem u64_or8 {a b : Int} (ha : 0 ≤ a ∧ a < 72057594037927936) (hb : 0 ≤ b ∧ b < 256) : bits .or .u64 (a * 256) b = 256 * a + b := by
  obtain ⟨A, rfl⟩ := Int.eq_ofNat_of_zero_le ha.1
  obtain ⟨B, rfl⟩ := Int.eq_ofNat_of_zero_le hb.1
  have e1 : ((A : Int) * 256) = ((A * 256 : Nat) : Int) := by omega
  rw [e1]
  show IntKind.u64.wrap ((BitVec.ofInt 64 ((A * 256 : Nat) : Int) ||| BitVec.ofInt 64 (B : Int)).toNat : Nat) = _
  rw [BitVec.toNat_or, BitVec.ofInt_natCast, BitVec.ofInt_natCast, BitVec.toNat_ofNat, BitVec.toNat_ofNat, Nat.mod_eq_of_lt (by omega), Nat.mod_eq_of_lt (by omega), Nat.mul_comm]
  have := Nat.two_pow_add_eq_or_of_lt (i := 8) (b := B) (by omega) A
  rw [show (256 : Nat) = 2 ^ 8 from rfl, ← this, IntKind.wrap_u64]
  omega
theorem n8_take {L : List Int} {k : Nat} (hk : k < L.length) (h8 : L.length ≤ 8) (hr : ∀ x ∈ L, 0 ≤ x ∧ x < 256) : 0 ≤ n8 (L.take k) ∧ n8 (L.take k) < 72057594037927936 := by
  have h := n8_bound k (L.take k) (by simp; omega) (fun x hx => hr x (List.mem_of_mem_take hx))
  have : k = 0 ∨ k = 1 ∨ k = 2 ∨ k = 3 ∨ k = 4 ∨ k = 5 ∨ k = 6 ∨ k = 7 := by omega
  refine ⟨h.1, Int.lt_of_lt_of_le h.2 ?_⟩
  rcases this with rfl | rfl | rfl | rfl | rfl | rfl | rfl | rfl <;> decide

set_option maxRecDepth 100000 in
theorem ScNumber_any (A : Option Addr) (m c : Nat) (L : List Int) (w : World) (hs : SlG (numE .u8) w A m L) (h8 : m ≤ 8) (hr : ∀ x ∈ L, 0 ≤ x ∧ x < 256) : Calls Try.prog 28 #[.slice A m c] w fun e w' => e = .returned (.int .u64 (n8 L)) ∧ w = w' := by
  have hll := Lib.hid hs.len
  go_enter Try.func28, Try.ntmps28
  go_wp2_with fail
  go_loopg [3, 8] m (fun gg s3 s8 wr => ∃ (k : Nat), k ≤ m ∧ m - k ≤ gg ∧ s3 = .int .u64 (n8 (L.take k)) ∧ s8 = .int .i64 k ∧ Aside (w = wr))
  case atStart => exact ⟨0, by omega, by omega, rfl, rfl, rfl⟩
  case round =>
    obtain ⟨k, hk, hg, rfl, rfl, hw⟩ := hrel
    obtain rfl := hw.out
    by_cases hlt : k < m
    · obtain ⟨b, off, x, rfl, hb, hx, c0⟩ := SlN.get hs (i := k) hlt
      have hn := n8_take (by rw [hll.out]; exact hlt) (by rw [hll.out]; exact h8) hr
      have hx8 := hr x (List.mem_of_getElem? hx)
      have ho := u64_or8 hn hx8
      have hst : Hid (n8 (L.take (k + 1)) = 256 * n8 (L.take k) + x) := Lib.hid (by rw [take_at hx, n8_snoc])
      have hsh : IntKind.u64.wrap (n8 (L.take k) * 256) = n8 (L.take k) * 256 := by rw [IntKind.wrap_u64]; omega
      clear hx
      generalize n8 (L.take k) = N at *
      go_wp2_with fail
      go_roundg (m - (k + 1))
      case measure => omega
      case rel => exact ⟨k + 1, by omega, by omega, by rw [hst.out], by go_num, rfl⟩
    · have hkm : Hid (L.take k = L) := Lib.hid (by rw [List.take_of_length_le]; rw [hll.out]; omega)
      obtain rfl : k = m := by omega
      go_wp2_with fail
      go_ret
      exact ⟨by rw [hkm.out]; rfl, rfl⟩

theorem fields_i {d : Nat} {xs ys : Array Value} {w : World} {f : Field} {fs : List Field} {a b : Int} {t : TypeId} {k : IntKind} {r : Bool} (hu : Try.prog.underlying t = some (.int k)) (hn : f.name ≠ "_") (ht : f.type = t) (hx : xs[f.offset]? = some (.int k a)) (hy : ys[f.offset]? = some (.int k b))
    (h : (Op.eqFields (d + 1) xs ys fs).run Try.prog w = .ok r w) : (Op.eqFields (d + 1) xs ys (f :: fs)).run Try.prog w = .ok (a == b && r) w := by
  subst ht
  exact fields_step hn (part_int w _ k hu xs _ a hx) (part_int w _ k hu ys _ b hy) (run_equalIn_int w d _ k k a b hu) h
set_option maxRecDepth 100000 in
theorem run_eqFS (o p : Sop) (w : World) : (Op.equalIn 10000 31 (.agg o.ar) (.agg p.ar)).run Try.prog w = .ok (eqS o p) w := by
  have h : (Op.equalIn 10000 31 (.agg o.ar) (.agg p.ar)).run Try.prog w = .ok (o.what == p.what && (o.user == p.user && (o.a == p.a && (o.v == p.v && (o.g == p.g && (o.i == p.i && (o.n == p.n && true))))))) w := by
    rw [run_equalIn_struct w 9999 _ _ _ (by kernel_rfl) (by kernel_rfl)]
    simp only [Program.fieldsOf, Try.underlying31]
    refine fields_i Try.underlying3 (by decide) rfl rfl rfl ?_
    refine fields_bool (by decide) rfl (part_bool w _ Try.underlying4 _ 1 o.user rfl) (part_bool w _ Try.underlying4 _ 1 p.user rfl) ?_
    refine fields_i Try.underlying29 (by decide) rfl rfl rfl ?_
    refine fields_i Try.underlying29 (by decide) rfl rfl rfl ?_
    refine fields_i Try.underlying3 (by decide) rfl rfl rfl ?_
    refine fields_i Try.underlying3 (by decide) rfl rfl rfl ?_
    exact fields_i Try.underlying3 (by decide) rfl rfl rfl fields_nil
  rw [Bool.and_true] at h
  exact h
theorem run_eqS (o p : Sop) (w : World) : (binOp .eql 31 (.agg o.ar) (.agg p.ar)).run Try.prog w = .ok (.bool (eqS o p)) w := by
  unfold Sop.ar; rw [run_eql_struct]; have := run_eqFS o p w; unfold Sop.ar at this; rw [this]; rfl
theorem run_neS (o p : Sop) (w : World) : (binOp .neq 31 (.agg o.ar) (.agg p.ar)).run Try.prog w = .ok (.bool (!eqS o p)) w := by
  unfold Sop.ar; rw [run_neq_struct]; have := run_eqFS o p w; unfold Sop.ar at this; rw [this]; rfl

/-- a string's iterator that stands at a place -/
def ItAt (w : World) (g : Nat) (s : ByteArray) (k : Nat) : Prop := w.heap[g]? = some (.stringIter s k)
theorem ItAt.chg {S : List Nat} {w w' : World} {g k : Nat} {s : ByteArray} (h : ItAt w g s k) (hc : Chg S w w') (hn : g ∉ S) : ItAt w' g s k := (hc.block g (Array.getElem?_eq_some_iff.1 h).1 hn).trans h
theorem ItAt.new (w : World) (s : ByteArray) : ItAt (w.iter s 0) w.heap.size s 0 := w.iter_heap s 0
theorem chg_iter {S : List Nat} {a w : World} (h : Chg S a w) (s : ByteArray) (k : Nat) : Chg S a (w.iter s k) := h.alloc _
theorem chg_iterAt {S : List Nat} {a w : World} (h : Chg S a w) {g : Nat} (hg : g < a.heap.size → g ∈ S) (s : ByteArray) (k : Nat) : Chg S a (w.iterAt g s k) :=
  ⟨h.os, h.tape, h.output, by rw [Lib.iterAt_size]; exact h.size, fun i hi hn => by
    rw [Lib.iterAt_other w g i s k (fun e => hn (e ▸ hg (e ▸ hi)))]; exact h.block i hi hn⟩
theorem ItAt.on {w : World} {g k j : Nat} {s : ByteArray} (h : ItAt w g s k) : ItAt (w.iterAt g s j) g s j := Lib.iterAt_heap w g s k j h
theorem blk_iterAt {w : World} {g g' k : Nat} {s : ByteArray} {t : TypeId} {cs : Array Value} (h : Blk w g t cs) (hi : ItAt w g' s k) (j : Nat) : Blk (w.iterAt g' s j) g t cs := by
  have hne : g ≠ g' := fun e => by subst e; have := Eq.trans (Eq.symm h) hi; cases this
  exact (Lib.iterAt_other w g' g s j hne).trans h
theorem run_next {w : World} {g k : Nat} {x c : Int} (h : ItAt w g (partsB x) k) (hc : (partsC x)[k]? = some c) (ty : TypeId) :
    (Instr.next (.pointer (some ⟨g, 0, none⟩)) true ty).run Try.prog w = .ok (.tuple #[.bool true, .int .i64 k, .int .i32 c]) (w.iterAt g (partsB x) (k + 1)) := by
  obtain ⟨h1, h2, h3⟩ := parts_dec hc
  rw [Lib.run_next_any_at w g _ k ty h h1, h3, h2]
theorem run_next0 {w : World} {g k : Nat} {x : Int} (h : ItAt w g (partsB x) k) (hc : (partsC x).length ≤ k) (ty : TypeId) :
    (Instr.next (.pointer (some ⟨g, 0, none⟩)) true ty).run Try.prog w = .ok (.tuple #[.bool false]) w :=
  Lib.run_next_end_at w g _ k ty h (by rw [partsB_size]; omega)
end Go.Proofs.Ytdmcicgappgiiaa
