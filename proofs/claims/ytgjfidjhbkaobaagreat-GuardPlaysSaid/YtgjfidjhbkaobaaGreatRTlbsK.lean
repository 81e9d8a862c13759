/-
 The document's TLB, as a thing that lies beside others.
-/
import Derived.Test.YtgjfidjhbkaobaaGreatSepGK
import Derived.Test.YtgjfidjhbkaobaaGreatG9rK
import Derived.Test.YtgjfidjhbkaobaaGreatTlbsK
namespace Go.Proofs.YtgjfidjhbkaobaaGreat
open Go.RowKit
def rtlbT (t most : Nat) (T : List Ht) : Th := ⟨fun w S => RTAt w S t most T, fun h => h.lt, fun h hc hn => h.chg hc hn⟩
section
variable {w0 w w' : World} {l : List Th} {t most : Nat} {T : List Ht}
theorem SepC.rtList (H : SepC w0 w (rtlbT t most T :: l)) : Calls Tryz.prog 19 #[.pointer (some ⟨t, 0, none⟩)] w fun e w' => ∃ v, e = .returned v ∧ SepC w0 w' (hitsT v T :: rtlbT t most T :: l) := by
 obtain ⟨S, h, _⟩ := H.fst
 exact (RTList_at S t most T w h).mono fun _ _ ⟨v, he, y, ho, hg⟩ => ⟨v, he, H.lay y ⟨rfl, ho⟩ hg⟩
theorem SepC.rtPut (H : SepC w0 w (rtlbT t most T :: l)) (x : Ht) : Calls Tryz.prog 62 #[.pointer (some ⟨t, 0, none⟩), x.v] w fun e w' => e = .returned (.tuple #[]) ∧ SepC w0 w' (rtlbT t most (putT most T x) :: l) :=
 H.callV fun S _ hS _ _ => (RTPut_at S t most T x w hS).mono fun _ _ ⟨he, y, S', h, hG⟩ => ⟨he, S', h, y, hG⟩
theorem SepC.rtNew (H : SepC w0 w l) (n : Nat) (h1 : 1 ≤ n) (h2 : n ≤ 512) : Calls Tryz.prog 46 #[.int .i64 n] w fun e w' => ∃ t, e = .returned (.pointer (some ⟨t, 0, none⟩)) ∧ SepC w0 w' (rtlbT t n [] :: l) :=
 (RTNew_in n w h1 h2).mono fun _ _ ⟨he, y, h⟩ => ⟨_, he, H.lay y h (by simp)⟩
end
end Go.Proofs.YtgjfidjhbkaobaaGreat
