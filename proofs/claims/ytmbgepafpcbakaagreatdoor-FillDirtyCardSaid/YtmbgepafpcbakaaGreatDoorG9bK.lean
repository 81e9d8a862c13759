/-
 TlbJ, TlbK, TlbL, TlbM, TlbN, TlbO in one text.
-/
import Derived.Test.YtmbgepafpcbakaaGreatDoorG9aK
namespace Go.Proofs.YtmbgepafpcbakaaGreatDoor
open Go.RowKit Go.Shelf
section
variable {w0 w w' : World} {F G : List Nat} {p most : Nat} {L : List Ht}
end
section
variable {w0 : World} {F : List Nat} {p most : Nat} {L : List Ht} {w : World}
end
section
variable {w0 : World} {F : List Nat} {p most : Nat} {L : List Ht} {w : World}
end
def hA : Ht := ⟨1, 5, 7, false, false, false, false⟩
def hB : Ht := ⟨2, 5, 8, false, false, false, false⟩
def hC : Ht := ⟨1, 6, 9, false, false, false, false⟩
section
variable {w0 w w' : World} {F : List Nat} {p most : Nat} {L M : List Ht} {v v' : Value}
end
section
variable {w0 w w' : World} {p n q m : Nat} {L M : List Ht}
end
structure OpT where
 what : Int
 h : Ht
 n : Int
instance OpT.inh : Inhabited OpT := ⟨⟨0, Ht.zero, 0⟩⟩
section
variable {L : List Ht} {a p : Int} {t : Bool} {x : Ht}
end
end Go.Proofs.YtmbgepafpcbakaaGreatDoor
