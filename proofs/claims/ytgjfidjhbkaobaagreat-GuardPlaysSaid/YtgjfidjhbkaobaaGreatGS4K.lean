/-
 StoreO, StoreHead, StoreQ, StoreT, StoreU, StoreV in one text.
-/
import Derived.Test.YtgjfidjhbkaobaaGreatGS3K
import Derived.Test.YtgjfidjhbkaobaaGreatSameIK
namespace Go.Proofs.YtgjfidjhbkaobaaGreat
open Go.RowKit Go.Maps
structure Ost where
 what : Int
 k : Ky
 p : Int
 i : Int
 t : Int
 h : Int
 r : Rg
def Ost.cs (o : Ost) : Array Value := #[.int .i64 o.what, .int .i64 o.k.g, .int .i64 o.k.lev, .int .i64 o.k.role, .int .i64 o.p, .int .i64 o.i, .int .i64 o.t, .int .i64 o.h, .bool o.r.w, .bool o.r.u, .bool o.r.x]
section
variable {w0 w : World} {l : List Th} {q hp hb n a m : Nat} {s : Sr}
end
def hd0 : Sr := ⟨[], dnk 4 3, zeros 128⟩
def hd1 : Sr := makeS 16 hd0 ⟨9, 2, 0⟩
def hd2 : Sr := makeS 16 hd1 ⟨5, 1, 0⟩
def hd3 : Sr := makeS 16 hd2 ⟨5, 1, 0⟩
def hd4 : Sr := makeS 16 hd3 ⟨5, 2, 1⟩
def opE : Enc Ost := ⟨fun o => o.cs.toList, 11, by decide, fun _ => rfl, fun o u hu => by
 simp only [Ost.cs, List.mem_cons, List.not_mem_nil, or_false] at hu
 rcases hu with rfl | rfl | rfl | rfl | rfl | rfl | rfl | rfl | rfl | rfl | rfl <;> rfl⟩
section
variable {n a m : Nat} {s : Sr}
end
section
variable {n a m : Nat} {s : Sr}
theorem SrOk.slotAt (h : SrOk n a m s) {j i : Nat} (hi : i < 8) {q : Pg} (hq : s.L[j]? = some q) : ∃ x, q.s[i]? = some x ∧ slotP s.L q.f (i : Int) = some x ∧ x ∈ q.s ∧ ∀ hx : 8 * j + i < 8 * s.L.length, slX s.L ⟨8 * j + i, hx⟩ = x ∧ pgX s.L ⟨8 * j + i, hx⟩ = q := by
 have hqm := List.mem_of_getElem? hq
 obtain ⟨x, h1, h2⟩ := h.slot hqm hi
 refine ⟨x, h1, h2, List.mem_of_getElem? h1, fun hx => ?_⟩
 have e1 : (8 * j + i) / 8 = j := by omega
 have e2 : (8 * j + i) % 8 = i := by omega
 have e3 : pgX s.L ⟨8 * j + i, hx⟩ = q := by
  unfold pgX
  obtain ⟨h3, h4⟩ := List.getElem?_eq_some_iff.1 hq
  simp only [e1]; exact h4
 refine ⟨?_, e3⟩
 unfold slX
 rw [e3]
 simp only [e2, List.getD_eq_getElem?_getD, h1, Option.getD_some]
theorem SrOk.lnkN (h : SrOk n a m s) (kind to_ : Int) : ∃ K : Nat → List (Int × Int), K 0 = [] ∧ K (8 * s.L.length) = toldP kind to_ s.L ∧ (∀ z, (K z).length ≤ 2048) ∧
  ∀ j i q x, s.L[j]? = some q → i < 8 → q.s[i]? = some x → K (8 * j + i + 1) = K (8 * j + i) ++ if x.kind = kind ∧ x.to_ = to_ then [(q.f, (i : Int))] else [] := by
 refine ⟨fun z => lnkF kind to_ s.L ((allI s.L.length).take z), by simp [lnkF], ?_, fun z => ?_, fun j i q x hq hi hx => ?_⟩
 ·show lnkF kind to_ s.L ((allI s.L.length).take (8 * s.L.length)) = _
  rw [allI_full, lnkF_all h.eight]
 ·have h1 := lnkF_len kind to_ s.L ((allI s.L.length).take z)
  have h2 : (allI s.L.length).length = 8 * s.L.length := by unfold allI; simp
  rw [List.length_take, h2] at h1
  have := h.cnt; have := h.le; have := h.n256
  show (lnkF kind to_ s.L ((allI s.L.length).take z)).length ≤ 2048
  omega
 obtain ⟨hj, hq'⟩ := List.getElem?_eq_some_iff.1 hq
 have hlt : 8 * j + i < 8 * s.L.length := by omega
 obtain ⟨x', h1, _, _, h4⟩ := h.slotAt hi hq
 rw [hx] at h1; cases h1
 obtain ⟨e1, e2⟩ := h4 hlt
 show lnkF kind to_ s.L ((allI s.L.length).take (8 * j + i + 1)) = lnkF kind to_ s.L ((allI s.L.length).take (8 * j + i)) ++ _
 rw [allI_take hlt, lnkF_snoc, e1, e2]
 simp only [show (8 * j + i) % 8 = i by omega]
end
section
variable {n a m : Nat} {s : Sr}
theorem ofP_len (L : List Pg) (g : Int) : (ofP L g).length ≤ L.length := by
 unfold ofP; rw [List.length_map]; exact List.length_filter_le _ _
end
section
variable {n a m : Nat} {s : Sr}
end
end Go.Proofs.YtgjfidjhbkaobaaGreat
