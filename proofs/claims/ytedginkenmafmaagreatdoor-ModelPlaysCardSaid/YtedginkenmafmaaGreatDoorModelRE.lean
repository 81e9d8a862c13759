/-
  The program's model and the document's, side by side and apart.
-/
import Derived.Test.YtedginkenmafmaaGreatDoorModelRB
import Derived.Test.YtedginkenmafmaaGreatDoorModelS
namespace Go.Proofs.YtedginkenmafmaaGreatDoor
open Go.RowKit Go.Shelf Go.Maps

/-- the program's model and the document's, apart, both new since w0 and apart from the blocks F -/
structure PR (w0 : World) (F : List Nat) (w : World) (m t q : Nat) (S : List Nat) (p : Nat) (L : List Int) (h b n : Nat) (s : Ms) (m' t' q' : Nat) (S' : List Nat) (p' h' b' : Nat) (s' : Ms) : Prop where
  ex : ∃ X Y, TAt w X t 512 s.T ∧ RTAt w Y t' 512 s'.T ∧ (∀ i ∈ X, w0.heap.size ≤ i ∧ i ∉ mB m q S h b ++ (mB m' q' S' h' b' ++ (Y ++ F))) ∧ ∀ i ∈ Y, w0.heap.size ≤ i ∧ i ∉ mB m' q' S' h' b' ++ (mB m q S h b ++ (X ++ F))
  c0 : Chg [] w0 w
  fl : ∀ i ∈ F, i < w.heap.size
  gu : GuIn w q S p L h b n s.W
  gr : RGuIn w q' S' p' L h' b' n s'.W
  st : Blk w m 98 #[.pointer (some ⟨t, 0, none⟩), .pointer (some ⟨q, 0, none⟩), .int .i64 s.r]
  sr : Blk w m' 102 #[.pointer (some ⟨q', 0, none⟩), .int .i64 s'.r, .pointer (some ⟨t', 0, none⟩)]
  er : ErrIn w0
  ok : OkM n L s
  okr : OkM n L s'
  nm : w0.heap.size ≤ m
  nb : w0.heap.size ≤ b
  nmr : w0.heap.size ≤ m'
  nbr : w0.heap.size ≤ b'
  ap : ∀ i ∈ mB m q S h b, i ∉ mB m' q' S' h' b' ++ F
  apr : ∀ i ∈ mB m' q' S' h' b', i ∉ F
  ms : m ∉ b :: q :: h :: S
  msr : m' ∉ b' :: q' :: h' :: S'

section
variable {w0 w w' : World} {F G : List Nat} {m t q p h b n : Nat} {S : List Nat} {L : List Int} {s : Ms} {m' t' q' p' h' b' : Nat} {S' : List Nat} {s' : Ms}
theorem PR.ltL (H : PR w0 F w m t q S p L h b n s m' t' q' S' p' h' b' s') : ∀ i ∈ mB m q S h b, i < w.heap.size := by
  intro i hi
  rw [mB, List.mem_cons] at hi
  rcases hi with rfl | hi
  · exact H.st.lt
  · exact H.gu.lt i hi
theorem PR.ltR (H : PR w0 F w m t q S p L h b n s m' t' q' S' p' h' b' s') : ∀ i ∈ mB m' q' S' h' b', i < w.heap.size := by
  intro i hi
  rw [mB, List.mem_cons] at hi
  rcases hi with rfl | hi
  · exact H.sr.lt
  · exact H.gr.lt i hi
theorem PR.new (H : PR w0 F w m t q S p L h b n s m' t' q' S' p' h' b' s') (hc : Chg [] w w') : PR w0 F w' m t q S p L h b n s m' t' q' S' p' h' b' s' := by
  obtain ⟨X, Y, h1, h2, h3, h4⟩ := H.ex
  exact ⟨⟨X, Y, h1.self hc, h2.self hc, h3, h4⟩, H.c0.trans hc (by simp), fun i hi => Nat.lt_of_lt_of_le (H.fl i hi) hc.size, H.gu.self hc, H.gr.self hc, hc.blk H.st (by simp), hc.blk H.sr (by simp), H.er, H.ok, H.okr, H.nm, H.nb, H.nmr, H.nbr, H.ap, H.apr, H.ms, H.msr⟩
theorem PR.less (H : PR w0 F w m t q S p L h b n s m' t' q' S' p' h' b' s') (hG : ∀ i ∈ G, i ∈ F) : PR w0 G w m t q S p L h b n s m' t' q' S' p' h' b' s' := by
  obtain ⟨X, Y, h1, h2, h3, h4⟩ := H.ex
  refine ⟨⟨X, Y, h1, h2, fun i hi => ⟨(h3 i hi).1, fun hm => (h3 i hi).2 ?_⟩, fun i hi => ⟨(h4 i hi).1, fun hm => (h4 i hi).2 ?_⟩⟩, H.c0, fun i hi => H.fl i (hG i hi), H.gu, H.gr, H.st, H.sr, H.er, H.ok, H.okr, H.nm, H.nb, H.nmr, H.nbr, fun i hi hm => H.ap i hi ?_, fun i hi hm => H.apr i hi (hG i hm), H.ms, H.msr⟩
  · simp only [List.mem_append] at hm ⊢
    rcases hm with hm | hm | hm | hm
    · exact .inl hm
    · exact .inr (.inl hm)
    · exact .inr (.inr (.inl hm))
    · exact .inr (.inr (.inr (hG i hm)))
  · simp only [List.mem_append] at hm ⊢
    rcases hm with hm | hm | hm | hm
    · exact .inl hm
    · exact .inr (.inl hm)
    · exact .inr (.inr (.inl hm))
    · exact .inr (.inr (.inr (hG i hm)))
  · simp only [List.mem_append] at hm ⊢
    rcases hm with hm | hm
    · exact .inl hm
    · exact .inr (hG i hm)
theorem PR.more (H : PR w0 F w m t q S p L h b n s m' t' q' S' p' h' b' s') (hc : Chg [] w w') (hG : ∀ i ∈ G, w.heap.size ≤ i ∧ i < w'.heap.size) : PR w0 (G ++ F) w' m t q S p L h b n s m' t' q' S' p' h' b' s' := by
  have K := H.new hc
  obtain ⟨X, Y, h1, h2, h3, h4⟩ := H.ex
  refine ⟨⟨X, Y, h1.self hc, h2.self hc, fun i hi => ⟨(h3 i hi).1, fun hm => ?_⟩, fun i hi => ⟨(h4 i hi).1, fun hm => ?_⟩⟩, K.c0, fun i hi => ?_, K.gu, K.gr, K.st, K.sr, K.er, K.ok, K.okr, K.nm, K.nb, K.nmr, K.nbr, fun i hi hm => ?_, fun i hi hm => ?_, K.ms, K.msr⟩
  · have hl := h1.lt i hi
    have hn := (h3 i hi).2
    simp only [List.mem_append, not_or] at hm hn
    rcases hm with hm | hm | hm | hm | hm
    · exact hn.1 hm
    · exact hn.2.1 hm
    · exact hn.2.2.1 hm
    · have := (hG i hm).1; omega
    · exact hn.2.2.2 hm
  · have hl := h2.lt i hi
    have hn := (h4 i hi).2
    simp only [List.mem_append, not_or] at hm hn
    rcases hm with hm | hm | hm | hm | hm
    · exact hn.1 hm
    · exact hn.2.1 hm
    · exact hn.2.2.1 hm
    · have := (hG i hm).1; omega
    · exact hn.2.2.2 hm
  · rw [List.mem_append] at hi
    rcases hi with hi | hi
    · exact (hG i hi).2
    · exact Nat.lt_of_lt_of_le (H.fl i hi) hc.size
  · have hl := H.ltL i hi
    have hn := H.ap i hi
    simp only [List.mem_append, not_or] at hm hn
    rcases hm with hm | hm | hm
    · exact hn.1 hm
    · have := (hG i hm).1; omega
    · exact hn.2 hm
  · have hl := H.ltR i hi
    rw [List.mem_append] at hm
    rcases hm with hm | hm
    · have := (hG i hm).1; omega
    · exact H.apr i hi hm
/-- a call of the program's side -/
theorem PR.left {f : FuncId} {args : Array Value} {v : Value} {s1 : Ms} (H : PR w0 F w m t q S p L h b n s m' t' q' S' p' h' b' s')
    (hc : ∀ F', ModB w0 F' w m t q S p L h b n s → Calls Tryz.prog f args w fun e w' => e = .returned v ∧ ModB w0 F' w' m t q S p L h b n s1 ∧ Far F' w w') :
    Calls Tryz.prog f args w fun e w' => e = .returned v ∧ PR w0 F w' m t q S p L h b n s1 m' t' q' S' p' h' b' s' ∧ Far F w w' := by
  obtain ⟨X, Y, h1, h2, h3, h4⟩ := H.ex
  have HL : ModB w0 (mB m' q' S' h' b' ++ (Y ++ F)) w m t q S p L h b n s := by
    refine ⟨⟨H.c0, fun i hi => ?_, X, h1, h3⟩, H.gu, H.st, H.er, H.ok, H.nm, H.nb, fun i hi hm => ?_, H.ms⟩
    · simp only [List.mem_append] at hi
      rcases hi with hi | hi | hi | hi
      · exact H.ltL i hi
      · exact H.ltR i hi
      · exact h2.lt i hi
      · exact H.fl i hi
    · have hn := H.ap i hi
      simp only [List.mem_append, not_or] at hm hn
      rcases hm with hm | hm | hm
      · exact hn.1 hm
      · have := (h4 i hm).2; simp only [List.mem_append, not_or] at this; exact this.2.1 hi
      · exact hn.2 hm
  refine (hc _ HL).mono fun e w' ⟨he, H1, f⟩ => ⟨he, ?_, f.less fun i hi => by simp [hi]⟩
  obtain ⟨c1, l1, X1, t1, n1⟩ := H1.tb
  obtain ⟨T, hT, hTF⟩ := f
  have hn : ∀ i ∈ mB m' q' S' h' b', i ∉ T := fun i hi hm => hTF i hm (by simp [hi])
  refine ⟨⟨X1, Y, t1, h2.chg hT (fun i hi hm => hTF i hm (by simp [hi])), n1, fun i hi => ⟨(h4 i hi).1, fun hm => ?_⟩⟩, c1, fun i hi => l1 i (by simp [hi]), H1.gu,
    H.gr.other hT (hn q' (by simp [mB])) (fun i hi => hn i (by simp [mB, hi])) (hn h' (by simp [mB])) (hn b' (by simp [mB])), H1.st, hT.blk H.sr (hn m' (by simp [mB])), H.er, H1.ok, H.okr, H.nm, H.nb, H.nmr, H.nbr, H.ap, H.apr, H.ms, H.msr⟩
  have hx := (h4 i hi).2
  simp only [List.mem_append, not_or] at hm hx
  rcases hm with hm | hm | hm | hm
  · exact hx.1 hm
  · exact hx.2.1 hm
  · have := (n1 i hm).2; simp only [List.mem_append, not_or] at this; exact this.2.2.1 hi
  · exact hx.2.2.2 hm
/-- a call of the document's side -/
theorem PR.right {f : FuncId} {args : Array Value} {v : Value} {s1 : Ms} (H : PR w0 F w m t q S p L h b n s m' t' q' S' p' h' b' s')
    (hc : ∀ F', RModB w0 F' w m' t' q' S' p' L h' b' n s' → Calls Tryz.prog f args w fun e w' => e = .returned v ∧ RModB w0 F' w' m' t' q' S' p' L h' b' n s1 ∧ Far F' w w') :
    Calls Tryz.prog f args w fun e w' => e = .returned v ∧ PR w0 F w' m t q S p L h b n s m' t' q' S' p' h' b' s1 ∧ Far F w w' := by
  obtain ⟨X, Y, h1, h2, h3, h4⟩ := H.ex
  have HR : RModB w0 (mB m q S h b ++ (X ++ F)) w m' t' q' S' p' L h' b' n s' := by
    refine ⟨⟨H.c0, fun i hi => ?_, Y, h2, h4⟩, H.gr, H.sr, H.okr, H.nmr, H.nbr, fun i hi hm => ?_, H.msr⟩
    · simp only [List.mem_append] at hi
      rcases hi with hi | hi | hi | hi
      · exact H.ltR i hi
      · exact H.ltL i hi
      · exact h1.lt i hi
      · exact H.fl i hi
    · have hn := H.apr i hi
      simp only [List.mem_append] at hm
      rcases hm with hm | hm | hm
      · have := H.ap i hm; simp only [List.mem_append, not_or] at this; exact this.1 hi
      · have := (h3 i hm).2; simp only [List.mem_append, not_or] at this; exact this.2.1 hi
      · exact hn hm
  refine (hc _ HR).mono fun e w' ⟨he, H1, f⟩ => ⟨he, ?_, f.less fun i hi => by simp [hi]⟩
  obtain ⟨c1, l1, Y1, t1, n1⟩ := H1.tb
  obtain ⟨T, hT, hTF⟩ := f
  have hn : ∀ i ∈ mB m q S h b, i ∉ T := fun i hi hm => hTF i hm (by simp [hi])
  refine ⟨⟨X, Y1, h1.chg hT (fun i hi hm => hTF i hm (by simp [hi])), t1, fun i hi => ⟨(h3 i hi).1, fun hm => ?_⟩, n1⟩, c1, fun i hi => l1 i (by simp [hi]),
    H.gu.other hT (hn q (by simp [mB])) (fun i hi => hn i (by simp [mB, hi])) (hn h (by simp [mB])) (hn b (by simp [mB])), H1.gu, hT.blk H.st (hn m (by simp [mB])), H1.st, H.er, H.ok, H1.ok, H.nm, H.nb, H.nmr, H.nbr, H.ap, H.apr, H.ms, H.msr⟩
  have hx := (h3 i hi).2
  simp only [List.mem_append, not_or] at hm hx
  rcases hm with hm | hm | hm | hm
  · exact hx.1 hm
  · exact hx.2.1 hm
  · have := (n1 i hm).2; simp only [List.mem_append, not_or] at this; exact this.2.2.1 hi
  · exact hx.2.2.2 hm
/-- what only reads (or makes new things), of the one and of the other -/
theorem PR.modL (H : PR w0 F w m t q S p L h b n s m' t' q' S' p' h' b' s') : ModB w0 [] w m t q S p L h b n s := by
  obtain ⟨X, Y, h1, h2, h3, h4⟩ := H.ex
  exact ⟨⟨H.c0, fun i hi => H.ltL i (by simpa using hi), X, h1, fun i hi => ⟨(h3 i hi).1, fun hm => (h3 i hi).2 (by rw [List.append_nil] at hm; simp [hm])⟩⟩, H.gu, H.st, H.er, H.ok, H.nm, H.nb, by simp, H.ms⟩
theorem PR.modR (H : PR w0 F w m t q S p L h b n s m' t' q' S' p' h' b' s') : RModB w0 [] w m' t' q' S' p' L h' b' n s' := by
  obtain ⟨X, Y, h1, h2, h3, h4⟩ := H.ex
  exact ⟨⟨H.c0, fun i hi => H.ltR i (by simpa using hi), Y, h2, fun i hi => ⟨(h4 i hi).1, fun hm => (h4 i hi).2 (by rw [List.append_nil] at hm; simp [hm])⟩⟩, H.gr, H.sr, H.okr, H.nmr, H.nbr, by simp, H.msr⟩
end

end Go.Proofs.YtedginkenmafmaaGreatDoor
