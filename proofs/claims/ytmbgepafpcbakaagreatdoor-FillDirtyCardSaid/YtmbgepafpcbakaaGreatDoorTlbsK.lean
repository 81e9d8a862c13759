/-
 A TLB, as a thing that lies beside others.
-/
import Derived.Test.YtmbgepafpcbakaaGreatDoorSepGK
import Derived.Test.YtmbgepafpcbakaaGreatDoorG9bK
import Derived.Test.YtmbgepafpcbakaaGreatDoorHtRgK
namespace Go.Proofs.YtmbgepafpcbakaaGreatDoor
open Go.RowKit
def tlbT (t most : Nat) (T : List Ht) : Th := ⟨fun w S => TAt w S t most T, fun h => h.lt, fun h hc hn => h.chg hc hn⟩
section
variable {w0 w w' : World} {l : List Th} {t most : Nat} {T : List Ht}
theorem SepC.tNew (H : SepC w0 w l) (n : Nat) (h1 : 1 ≤ n) (h2 : n ≤ 512) : Calls Tryz.prog 33 #[.int .i64 n] w fun e w' => ∃ t, e = .returned (.pointer (some ⟨t, 0, none⟩)) ∧ SepC w0 w' (tlbT t n [] :: l) :=
 (TNew_in n w h1 h2).mono fun _ _ ⟨he, y, h⟩ => ⟨_, he, H.lay y h (by simp)⟩
end
end Go.Proofs.YtmbgepafpcbakaaGreatDoor
