/-
  A host's memory, the program's and the document's, as things that lie beside others.
-/
import Derived.Test.YtfckedecpflldaaSepG
import Derived.Test.YtfckedecpflldaaG1
namespace Go.Proofs.Ytfckedecpflldaa
open Go.RowKit

/-- a host that no store is in yet -/
def hoT (hp hb n : Nat) (W : List Int) : Th := ⟨fun w U => U = [hb, hp] ∧ MemAt w hp hb n W, fun h i hi => by
  rw [h.1] at hi; simp only [List.mem_cons, List.not_mem_nil, or_false] at hi
  rcases hi with rfl | rfl
  · exact h.2.ws.lt
  · exact h.2.st.lt, fun h hc hn => ⟨h.1, hc.blk h.2.st (hn _ (by rw [h.1]; simp)), hc.blk h.2.ws (hn _ (by rw [h.1]; simp)), h.2.len, h.2.pos, h.2.le⟩⟩

/-- a document's host that no store is in yet -/
def rhoT (rp rb n : Nat) (W : List Int) : Th := ⟨fun w U => U = [rb, rp] ∧ RMemAt w rp rb n W, fun h i hi => by
  rw [h.1] at hi; simp only [List.mem_cons, List.not_mem_nil, or_false] at hi
  rcases hi with rfl | rfl
  · exact h.2.ws.lt
  · exact h.2.st.lt, fun h hc hn => ⟨h.1, h.2.chg hc (hn _ (by rw [h.1]; simp)) (hn _ (by rw [h.1]; simp))⟩⟩

section
variable {w0 w w' : World} {l : List Th} {hp hb n : Nat} {W : List Int}
theorem SepC.hmem (H : SepC w0 w (hoT hp hb n W :: l)) : MemAt w hp hb n W := by
  obtain ⟨_, ⟨_, h⟩, _⟩ := H.fst; exact h
theorem SepC.hSet (H : SepC w0 w (hoT hp hb n W :: l)) (f i v : Int) :
    Calls Try.prog 20 #[.pointer (some ⟨hp, 0, none⟩), .int .i64 f, .int .i64 i, .int .u64 v] w fun e w' => e = .returned (.bool (hasW n f i)) ∧ SepC w0 w' (hoT hp hb n (setW n W f i v) :: l) :=
  H.callV fun S V hS _ _ => by
    obtain ⟨rfl, hm⟩ := hS
    exact (Set_at hp hb n W f i v w hm).mono fun _ _ ⟨he, y, hm'⟩ => ⟨he, [hb, hp], ⟨rfl, hm'⟩, y.weak (fun i _ hi => by simp only [List.mem_cons, List.not_mem_nil, or_false] at hi ⊢; exact .inl hi), fun _ hi => .inl hi⟩
theorem SepC.rhmem (H : SepC w0 w (rhoT hp hb n W :: l)) : RMemAt w hp hb n W := by
  obtain ⟨_, ⟨_, h⟩, _⟩ := H.fst; exact h
theorem SepC.rhSet (H : SepC w0 w (rhoT hp hb n W :: l)) (f i v : Int) :
    Calls Try.prog 15 #[.pointer (some ⟨hp, 0, none⟩), .int .i64 f, .int .i64 i, .int .u64 v] w fun e w' => e = .returned (.bool (hasW n f i)) ∧ SepC w0 w' (rhoT hp hb n (setW n W f i v) :: l) :=
  H.callV fun S V hS _ _ => by
    obtain ⟨rfl, hm⟩ := hS
    exact (RSet_at hp hb n W f i v w hm).mono fun _ _ ⟨he, y, hm'⟩ => ⟨he, [hb, hp], ⟨rfl, hm'⟩, y.weak (fun i _ hi => by simp only [List.mem_cons, List.not_mem_nil, or_false] at hi ⊢; exact .inl hi), fun _ hi => .inl hi⟩
/-- all of it filled from what lies elsewhere -/
theorem SepC.hFill (H : SepC w0 w (hoT hp hb n W :: l)) (f : Int) (A : Option Addr) (m c : Nat) (xs : List Int) (hs : SlU w A m xs) (hm : m ≤ 9223372036854775807) :
    Calls Try.prog 33 #[.pointer (some ⟨hp, 0, none⟩), .int .i64 f, .slice A m c] w fun e w' => e = .returned (.bool (fillB n f m)) ∧ SepC w0 w' (hoT hp hb n (fillW n W f xs) :: l) :=
  H.callV fun S V hS _ _ => by
    obtain ⟨rfl, hM⟩ := hS
    exact (Fill_at hp hb n W f A m c xs w hM hs hm).mono fun _ _ ⟨he, y, hm'⟩ => ⟨he, [hb, hp], ⟨rfl, hm'⟩, y.weak (fun i _ hi => by simp only [List.mem_cons, List.not_mem_nil, or_false] at hi ⊢; exact .inl hi), fun _ hi => .inl hi⟩
end

end Go.Proofs.Ytfckedecpflldaa
