/-
  A TLB, as a thing that lies beside others.
-/
import Derived.Test.YtgjfidjhbkaobaaSepG
import Derived.Test.YtgjfidjhbkaobaaG9b
import Derived.Test.YtgjfidjhbkaobaaHtRg
namespace Go.Proofs.Ytgjfidjhbkaobaa
open Go.RowKit

def tlbT (t most : Nat) (T : List Ht) : Th := ⟨fun w S => TAt w S t most T, fun h => h.lt, fun h hc hn => h.chg hc hn⟩
/-- hits, as a list of one's own -/
def hitsT (v : Value) (T : List Ht) : Th := ⟨fun w U => U = v.ownBlock.toList ∧ OwnH w v T, fun h i hi => h.2.lt i (by rw [← h.1]; exact hi), fun h hc hn => ⟨h.1, h.2.chg hc (fun g hg => hn g (by rw [h.1]; exact hg))⟩⟩
section
variable {w0 w w' : World} {l : List Th} {t most : Nat} {T : List Ht}
theorem SepC.hitsOwn {v : Value} (H : SepC w0 w (hitsT v T :: l)) : OwnH w v T := by
  obtain ⟨_, h, _⟩ := H.fst; exact h.2
theorem SepC.tMany (H : SepC w0 w (tlbT t most T :: l)) : Calls Try.prog 19 #[.pointer (some ⟨t, 0, none⟩)] w fun e w' => e = .returned (.int .i64 T.length) ∧ Chg [] w w' := by
  obtain ⟨S, h, _⟩ := H.fst
  exact TMany_at S t most T w h
theorem SepC.tDrop (H : SepC w0 w (tlbT t most T :: l)) (a pg : Int) : Calls Try.prog 50 #[.pointer (some ⟨t, 0, none⟩), .int .i64 a, .int .i64 pg] w fun e w' => e = .returned (.bool (hasT T a pg)) ∧ SepC w0 w' (tlbT t most (dropT T a pg) :: l) :=
  H.callV fun S _ hS _ _ => (TDrop_at S t most T a pg w hS).mono fun _ _ ⟨he, y, h⟩ => ⟨he, S, h, y, fun _ hi => .inl hi⟩
theorem SepC.tPut (H : SepC w0 w (tlbT t most T :: l)) (x : Ht) : Calls Try.prog 14 #[.pointer (some ⟨t, 0, none⟩), x.v] w fun e w' => e = .returned (.tuple #[]) ∧ SepC w0 w' (tlbT t most (putT most T x) :: l) :=
  H.callV fun S _ hS _ _ => (TPut_at S t most T x w hS).mono fun _ _ ⟨S', he, y, h, hG⟩ => ⟨he, S', h, y, hG⟩
theorem SepC.tNew (H : SepC w0 w l) (n : Nat) (h1 : 1 ≤ n) (h2 : n ≤ 512) : Calls Try.prog 44 #[.int .i64 n] w fun e w' => ∃ t, e = .returned (.pointer (some ⟨t, 0, none⟩)) ∧ SepC w0 w' (tlbT t n [] :: l) :=
  (TNew_in n w h1 h2).mono fun _ _ ⟨he, y, h⟩ => ⟨_, he, H.lay y h (by simp)⟩
end

end Go.Proofs.Ytgjfidjhbkaobaa
