/-
  The contract of the laws' Great, of layer 7.
-/
import Derived.Test.YtepbknndemlbcaaRefA
namespace Go.Proofs.Ytepbknndemlbcaa
open Go.RowKit

def SomeB (e : Ending) : Prop := ∃ g : Bool, e = .returned (.bool g)

set_option maxRecDepth 100000 in
set_option maxHeartbeats 1000000 in
theorem Great7_any (A : Option Addr) (n c : Nat) (w : World) (h : SlOp w A n) :
    Calls Try.prog 10 #[.slice A n c] w fun e w' => SomeB e ∧ w = w' := by
  have hn := h.le
  go_enter Try.func10, Try.ntmps10
  go_wp2
  go_loop [3, 4] (fun s i => ∃ (k : Nat) (t : Int), k ≤ n ∧ i = .int .i64 k ∧ s = .int .i64 t ∧ 0 ≤ t ∧ t ≤ n + 40000) (fun _ i => n - (intOf i).toNat)
  case atStart => exact ⟨0, n, by omega, rfl, rfl, by omega, by omega⟩
  case round =>
    obtain ⟨k, t, hk, rfl, rfl, ht0, ht⟩ := hrel
    by_cases hlt : k < n
    · obtain ⟨b, off, rfl, what, f, i, v, LA, LN, LC, xs, ho⟩ := h.get hlt
      have c4 := ho.c4
      have hln := ho.ln
      clear ho
      by_cases h9 : t < 20000
      · go_wp2
        go_round
        case rel => exact ⟨k + 1, _, by omega, by go_num, rfl, by split <;> omega, by split <;> omega⟩
        case measure => simp [intOf]; omega
      · go_wp2
        all_goals go_ret
        all_goals exact ⟨⟨_, rfl⟩, rfl⟩
    · go_wp2
      all_goals go_ret
      all_goals exact ⟨⟨_, rfl⟩, rfl⟩

end Go.Proofs.Ytepbknndemlbcaa
