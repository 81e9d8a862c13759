/-
  A host's memory, the program's and the document's, as things that lie beside others.
-/
import Derived.Test.YtgjfidjhbkaobaaSepG
import Derived.Test.YtgjfidjhbkaobaaG1
namespace Go.Proofs.Ytgjfidjhbkaobaa
open Go.RowKit

/-- a host that no store is in yet -/
def hoT (hp hb n : Nat) (W : List Int) : Th := ⟨fun w U => U = [hb, hp] ∧ MemAt w hp hb n W, fun h i hi => by
  rw [h.1] at hi; simp only [List.mem_cons, List.not_mem_nil, or_false] at hi
  rcases hi with rfl | rfl
  · exact h.2.ws.lt
  · exact h.2.st.lt, fun h hc hn => ⟨h.1, hc.blk h.2.st (hn _ (by rw [h.1]; simp)), hc.blk h.2.ws (hn _ (by rw [h.1]; simp)), h.2.len, h.2.pos, h.2.le⟩⟩

section
variable {w0 w w' : World} {l : List Th} {hp hb n : Nat} {W : List Int}
theorem SepC.hmem (H : SepC w0 w (hoT hp hb n W :: l)) : MemAt w hp hb n W := by
  obtain ⟨_, ⟨_, h⟩, _⟩ := H.fst; exact h
theorem SepC.hSet (H : SepC w0 w (hoT hp hb n W :: l)) (f i v : Int) :
    Calls Try.prog 62 #[.pointer (some ⟨hp, 0, none⟩), .int .i64 f, .int .i64 i, .int .u64 v] w fun e w' => e = .returned (.bool (hasW n f i)) ∧ SepC w0 w' (hoT hp hb n (setW n W f i v) :: l) :=
  H.callV fun S V hS _ _ => by
    obtain ⟨rfl, hm⟩ := hS
    exact (Set_at hp hb n W f i v w hm).mono fun _ _ ⟨he, y, hm'⟩ => ⟨he, [hb, hp], ⟨rfl, hm'⟩, y.weak (fun i _ hi => by simp only [List.mem_cons, List.not_mem_nil, or_false] at hi ⊢; exact .inl hi), fun _ hi => .inl hi⟩
end

end Go.Proofs.Ytgjfidjhbkaobaa
