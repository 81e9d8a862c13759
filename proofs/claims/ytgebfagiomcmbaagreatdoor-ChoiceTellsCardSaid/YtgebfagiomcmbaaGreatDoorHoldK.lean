/-
  Regions that draw their order: what is held may be made more on the way; two calls that come up in either order are one step. No program is named here.
-/
import Derived.Test.YtgebfagiomcmbaaGreatDoorG0K
namespace Go.Proofs.YtgebfagiomcmbaaGreatDoor
open Go.RowKit

section
variable {P : Program} {md : Region.Mode} {ops : Array Oper} {Q : Exit → Act → World → Prop} {S S' : World → Prop}
theorem held_up (h : ∀ w, S' w → S w) : ∀ {fuel : Nat} {listed : Array Bool} {a : Act} {w : World}, wpAnyH P md ops Q S' fuel listed a w → wpAnyH P md ops Q S fuel listed a w
  | 0, _, _, _, H => H
  | _ + 1, _, _, _, H => ⟨H.1, fun i hi => wpOp_mono (fun _ _ h' => ⟨h _ h'.1, held_up h h'.2⟩) (H.2 i hi)⟩
end

end Go.Proofs.YtgebfagiomcmbaaGreatDoor
