/-
 A TLB, as a thing that lies beside others.
-/
import Derived.Test.YtgjfidjhbkaobaaGreatSepGK
import Derived.Test.YtgjfidjhbkaobaaGreatG9bK
import Derived.Test.YtgjfidjhbkaobaaGreatHtRgK
namespace Go.Proofs.YtgjfidjhbkaobaaGreat
open Go.RowKit
def tlbT (t most : Nat) (T : List Ht) : Th := ⟨fun w S => TAt w S t most T, fun h => h.lt, fun h hc hn => h.chg hc hn⟩
def hitsT (v : Value) (T : List Ht) : Th := ⟨fun w U => U = v.ownBlock.toList ∧ OwnH w v T, fun h i hi => h.2.lt i (by rw [← h.1]; exact hi), fun h hc hn => ⟨h.1, h.2.chg hc (fun g hg => hn g (by rw [h.1]; exact hg))⟩⟩
section
variable {w0 w w' : World} {l : List Th} {t most : Nat} {T : List Ht}
theorem SepC.hitsOwn {v : Value} (H : SepC w0 w (hitsT v T :: l)) : OwnH w v T := by
 obtain ⟨_, h, _⟩ := H.fst; exact h.2
theorem SepC.tList (H : SepC w0 w (tlbT t most T :: l)) : Calls Tryz.prog 18 #[.pointer (some ⟨t, 0, none⟩)] w fun e w' => ∃ v, e = .returned v ∧ SepC w0 w' (hitsT v T :: tlbT t most T :: l) := by
 obtain ⟨S, h, _⟩ := H.fst
 exact (TList_at S t most T w h).mono fun _ _ ⟨v, he, y, ho, hg⟩ => ⟨v, he, H.lay y ⟨rfl, ho⟩ hg⟩
theorem SepC.tPut (H : SepC w0 w (tlbT t most T :: l)) (x : Ht) : Calls Tryz.prog 52 #[.pointer (some ⟨t, 0, none⟩), x.v] w fun e w' => e = .returned (.tuple #[]) ∧ SepC w0 w' (tlbT t most (putT most T x) :: l) :=
 H.callV fun S _ hS _ _ => (TPut_at S t most T x w hS).mono fun _ _ ⟨S', he, y, h, hG⟩ => ⟨he, S', h, y, hG⟩
theorem SepC.tNew (H : SepC w0 w l) (n : Nat) (h1 : 1 ≤ n) (h2 : n ≤ 512) : Calls Tryz.prog 37 #[.int .i64 n] w fun e w' => ∃ t, e = .returned (.pointer (some ⟨t, 0, none⟩)) ∧ SepC w0 w' (tlbT t n [] :: l) :=
 (TNew_in n w h1 h2).mono fun _ _ ⟨he, y, h⟩ => ⟨_, he, H.lay y h (by simp)⟩
end
end Go.Proofs.YtgjfidjhbkaobaaGreat
