/-
  The contracts of tlb as laws use them: what is new since a world w0, and apart from some blocks.
-/
import Derived.Test.YtikdoldmhlbklaaTlbJ
namespace Go.Proofs.Ytikdoldmhlbklaa
open Go.RowKit Go.Shelf

/-- p knows L, in blocks that are new since w0 and none of F; nothing of w0 has turned -/
def TB (w0 : World) (F : List Nat) (w : World) (p most : Nat) (L : List Ht) : Prop :=
  Chg [] w0 w ∧ (∀ i ∈ F, i < w.heap.size) ∧ ∃ S, TAt w S p most L ∧ ∀ i ∈ S, w0.heap.size ≤ i ∧ i ∉ F
/-- nothing of F has turned -/
def Far (F : List Nat) (w w' : World) : Prop := ∃ S, Chg S w w' ∧ ∀ i ∈ S, i ∉ F

section
variable {w0 w w' : World} {F G : List Nat} {p most : Nat} {L : List Ht}
theorem Far.slh {A : Option Addr} {n : Nat} {M : List Ht} (h : Far F w w') (hs : SlH w A n M) (hA : ∀ b off, A = some ⟨b, off, none⟩ → b ∈ F) : SlH w' A n M := by
  obtain ⟨S, hc, hd⟩ := h
  exact hs.chg hc fun b off e hm => hd b hm (hA b off e)
theorem Far.own {v : Value} {M : List Ht} (h : Far F w w') (hs : OwnH w v M) (hA : ∀ g ∈ v.ownBlock.toList, g ∈ F) : OwnH w' v M := by
  obtain ⟨S, hc, hd⟩ := h
  exact hs.chg hc fun g hg hm => hd g hm (hA g hg)
theorem Far.blkH {g : Nat} {x : Ht} (h : Far F w w') (hb : BlkH w g x) (hg : g ∈ F) : BlkH w' g x := by
  obtain ⟨S, hc, hd⟩ := h
  exact hb.chg hc fun hm => hd g hm hg
theorem TB.chg0 (h : TB w0 F w p most L) : Chg [] w0 w := h.1
theorem TB.new (h : TB w0 F w p most L) (hc : Chg [] w w') : TB w0 F w' p most L := by
  obtain ⟨h1, h2, S, h3, h4⟩ := h
  exact ⟨h1.trans hc (by simp), fun i hi => Nat.lt_of_lt_of_le (h2 i hi) hc.size, S, h3.self hc, h4⟩
/-- another thing that is of one's own turned -/
theorem TB.other (h : TB w0 F w p most L) {T : List Nat} (hc : Chg T w w') (hT : ∀ i ∈ T, i ∈ F) (hT0 : ∀ i ∈ T, w0.heap.size ≤ i) : TB w0 F w' p most L := by
  obtain ⟨h1, h2, S, h3, h4⟩ := h
  exact ⟨h1.trans hc (fun i hi hm => absurd (hT0 i hm) (by omega)), fun i hi => Nat.lt_of_lt_of_le (h2 i hi) hc.size, S, h3.chg hc (fun i hi hm => (h4 i hi).2 (hT i hm)), h4⟩
/-- what is new is apart, too -/
theorem TB.more (h : TB w0 F w p most L) (hc : Chg [] w w') (hG : ∀ i ∈ G, w.heap.size ≤ i ∧ i < w'.heap.size) : TB w0 (G ++ F) w' p most L := by
  obtain ⟨h1, h2, S, h3, h4⟩ := h
  refine ⟨h1.trans hc (by simp), fun i hi => ?_, S, h3.self hc, fun i hi => ⟨(h4 i hi).1, fun hm => ?_⟩⟩
  · rw [List.mem_append] at hi
    rcases hi with hi | hi
    · exact (hG i hi).2
    · exact Nat.lt_of_lt_of_le (h2 i hi) hc.size
  · rw [List.mem_append] at hm
    rcases hm with hm | hm
    · have := (hG i hm).1; have := h3.lt i hi; omega
    · exact (h4 i hi).2 hm
theorem TB.less (h : TB w0 F w p most L) (hG : ∀ i ∈ G, i ∈ F) : TB w0 G w p most L := by
  obtain ⟨h1, h2, S, h3, h4⟩ := h
  exact ⟨h1, fun i hi => h2 i (hG i hi), S, h3, fun i hi => ⟨(h4 i hi).1, fun hm => (h4 i hi).2 (hG i hm)⟩⟩
theorem TB.le (h : TB w0 F w p most L) : L.length ≤ most := by obtain ⟨_, _, S, h3, _⟩ := h; exact h3.le
theorem TB.lo (h : TB w0 F w p most L) : 1 ≤ most := by obtain ⟨_, _, S, h3, _⟩ := h; exact h3.lo
theorem TB.hi (h : TB w0 F w p most L) : most ≤ 512 := by obtain ⟨_, _, S, h3, _⟩ := h; exact h3.hi
theorem TB.nd (h : TB w0 F w p most L) : KeyN L := by obtain ⟨_, _, S, h3, _⟩ := h; exact h3.nd
end

theorem TNew_b (w0 : World) (n : Nat) (w : World) (h1 : 1 ≤ n) (h2 : n ≤ 512) (hc : Chg [] w0 w) :
    Calls Try.prog 11 #[.int .i64 n] w fun e w' => e = .returned (.pointer (some ⟨w.heap.size, 0, none⟩)) ∧ TB w0 [] w' w.heap.size n [] ∧ Chg [] w w' :=
  (TNew_in n w h1 h2).mono fun _ _ ⟨he, hch, h⟩ => ⟨he, ⟨hc.trans hch (by simp), by simp, _, h, by intro i hi; simp at hi; subst hi; exact ⟨hc.size, by simp⟩⟩, hch⟩

section
variable {w0 : World} {F : List Nat} {p most : Nat} {L : List Ht} {w : World}
theorem TB.step {S S' : List Nat} {w' : World} {M : List Ht} (h1 : Chg [] w0 w) (h2 : ∀ i ∈ F, i < w.heap.size) (h4 : ∀ i ∈ S, w0.heap.size ≤ i ∧ i ∉ F) (hc : Chg S w w') (ht : TAt w' S' p most M) (hG : Grew w S S') : TB w0 F w' p most M ∧ Far F w w' := by
  refine ⟨⟨h1.trans hc (fun i hi hm => absurd (h4 i hm).1 (by omega)), fun i hi => Nat.lt_of_lt_of_le (h2 i hi) hc.size, S', ht, fun i hi => ?_⟩, S, hc, fun i hi => (h4 i hi).2⟩
  rcases hG i hi with h | h
  · exact h4 i h
  · exact ⟨Nat.le_trans h1.size h, fun hm => absurd (h2 i hm) (by omega)⟩
theorem TPut_b (x : Ht) (h : TB w0 F w p most L) :
    Calls Try.prog 21 #[.pointer (some ⟨p, 0, none⟩), x.v] w fun e w' => e = .returned (.tuple #[]) ∧ TB w0 F w' p most (putT most L x) ∧ Far F w w' := by
  obtain ⟨h1, h2, S, h3, h4⟩ := h
  exact (TPut_at S p most L x w h3).mono fun _ _ ⟨S', he, hc, ht, hG⟩ => ⟨he, TB.step h1 h2 h4 hc ht hG⟩
theorem TDrop_b (a pg : Int) (h : TB w0 F w p most L) :
    Calls Try.prog 13 #[.pointer (some ⟨p, 0, none⟩), .int .i64 a, .int .i64 pg] w fun e w' => e = .returned (.bool (hasT L a pg)) ∧ TB w0 F w' p most (dropT L a pg) ∧ Far F w w' := by
  obtain ⟨h1, h2, S, h3, h4⟩ := h
  exact (TDrop_at S p most L a pg w h3).mono fun _ _ ⟨he, hc, ht⟩ => ⟨he, TB.step h1 h2 h4 hc ht (Grew.refl _ _)⟩
theorem TFlush_b (a : Int) (h : TB w0 F w p most L) :
    Calls Try.prog 15 #[.pointer (some ⟨p, 0, none⟩), .int .i64 a] w fun e w' => e = .returned (.tuple #[]) ∧ TB w0 F w' p most (flushT L a) ∧ Far F w w' := by
  obtain ⟨h1, h2, S, h3, h4⟩ := h
  exact (TFlush_at S p most L a w h3).mono fun _ _ ⟨he, hc, ht⟩ => ⟨he, TB.step h1 h2 h4 hc ht (Grew.refl _ _)⟩
theorem TAll_b (h : TB w0 F w p most L) :
    Calls Try.prog 17 #[.pointer (some ⟨p, 0, none⟩)] w fun e w' => e = .returned (.tuple #[]) ∧ TB w0 F w' p most [] ∧ Far F w w' := by
  obtain ⟨h1, h2, S, h3, h4⟩ := h
  exact (TAll_at S p most L w h3).mono fun _ _ ⟨S', he, hc, ht, hG⟩ => ⟨he, TB.step h1 h2 h4 hc ht hG⟩
theorem TPick_b (n : Int) (hn : -9223372036854775808 ≤ n ∧ n ≤ 9223372036854775807) (h : TB w0 F w p most L) :
    Calls Try.prog 19 #[.pointer (some ⟨p, 0, none⟩), .int .i64 n] w fun e w' => e = .returned (.bool (!L.isEmpty)) ∧ TB w0 F w' p most (pickT L n) ∧ Far F w w' := by
  obtain ⟨h1, h2, S, h3, h4⟩ := h
  exact (TPick_at S p most L n w h3 hn).mono fun _ _ ⟨he, hc, ht⟩ => ⟨he, TB.step h1 h2 h4 hc ht (Grew.refl _ _)⟩
theorem TGet_b (a pg : Int) (h : TB w0 F w p most L) :
    Calls Try.prog 23 #[.pointer (some ⟨p, 0, none⟩), .int .i64 a, .int .i64 pg] w fun e w' => e = .returned (.tuple #[(getT L a pg).v, .bool (hasT L a pg)]) ∧ TB w0 F w' p most L ∧ Chg [] w w' := by
  have h0 := h
  obtain ⟨h1, h2, S, h3, h4⟩ := h
  exact (TGet_at S p most L a pg w h3).mono fun _ _ ⟨he, hc⟩ => ⟨he, h0.new hc, hc⟩
theorem TMany_b (h : TB w0 F w p most L) :
    Calls Try.prog 28 #[.pointer (some ⟨p, 0, none⟩)] w fun e w' => e = .returned (.int .i64 L.length) ∧ TB w0 F w' p most L ∧ Chg [] w w' := by
  have h0 := h
  obtain ⟨h1, h2, S, h3, h4⟩ := h
  exact (TMany_at S p most L w h3).mono fun _ _ ⟨he, hc⟩ => ⟨he, h0.new hc, hc⟩
theorem TList_b (h : TB w0 F w p most L) :
    Calls Try.prog 26 #[.pointer (some ⟨p, 0, none⟩)] w fun e w' => ∃ A c G, e = .returned (.slice A L.length c) ∧ TB w0 (G ++ F) w' p most L ∧ Chg [] w w' ∧ OwnH w' (.slice A L.length c) L ∧ (∀ b off, A = some ⟨b, off, none⟩ → b ∈ G) ∧ ∀ i ∈ G, w.heap.size ≤ i := by
  have h0 := h
  obtain ⟨h1, h2, S, h3, h4⟩ := h
  refine (TList_at S p most L w h3).mono fun _ w' ⟨v, he, hc, ho, hg⟩ => ?_
  obtain ⟨A, c, rfl, _, _⟩ := ho.form
  refine ⟨A, c, (Value.slice A L.length c).ownBlock.toList, he, h0.more hc (fun i hi => ⟨hg i hi, ho.lt i hi⟩), hc, ho, fun b off e => ?_, hg⟩
  subst e; simp [Value.ownBlock]
end

end Go.Proofs.Ytikdoldmhlbklaa
