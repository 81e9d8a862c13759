/-
  The document's model: what it is; its small methods.
-/
import Derived.Test.YtedginkenmafmaaGreatDoorModelH
import Derived.Test.YtedginkenmafmaaGreatDoorG8r
import Derived.Test.YtedginkenmafmaaGreatDoorG9r
namespace Go.Proofs.YtedginkenmafmaaGreatDoor
open Go.RowKit Go.Shelf Go.Maps

/-- p knows L, in blocks that are new since w0 and none of F; nothing of w0 has turned -/
def RTB (w0 : World) (F : List Nat) (w : World) (p most : Nat) (L : List Ht) : Prop :=
  Chg [] w0 w ∧ (∀ i ∈ F, i < w.heap.size) ∧ ∃ S, RTAt w S p most L ∧ ∀ i ∈ S, w0.heap.size ≤ i ∧ i ∉ F
section
variable {w0 w w' : World} {F G : List Nat} {p most : Nat} {L : List Ht}
theorem RTB.chg0 (h : RTB w0 F w p most L) : Chg [] w0 w := h.1
theorem RTB.new (h : RTB w0 F w p most L) (hc : Chg [] w w') : RTB w0 F w' p most L := by
  obtain ⟨h1, h2, S, h3, h4⟩ := h
  exact ⟨h1.trans hc (by simp), fun i hi => Nat.lt_of_lt_of_le (h2 i hi) hc.size, S, h3.self hc, h4⟩
/-- another thing that is of one's own turned -/
theorem RTB.other (h : RTB w0 F w p most L) {T : List Nat} (hc : Chg T w w') (hT : ∀ i ∈ T, i ∈ F) (hT0 : ∀ i ∈ T, w0.heap.size ≤ i) : RTB w0 F w' p most L := by
  obtain ⟨h1, h2, S, h3, h4⟩ := h
  exact ⟨h1.trans hc (fun i hi hm => absurd (hT0 i hm) (by omega)), fun i hi => Nat.lt_of_lt_of_le (h2 i hi) hc.size, S, h3.chg hc (fun i hi hm => (h4 i hi).2 (hT i hm)), h4⟩
/-- what is new is apart, too -/
theorem RTB.more (h : RTB w0 F w p most L) (hc : Chg [] w w') (hG : ∀ i ∈ G, w.heap.size ≤ i ∧ i < w'.heap.size) : RTB w0 (G ++ F) w' p most L := by
  obtain ⟨h1, h2, S, h3, h4⟩ := h
  refine ⟨h1.trans hc (by simp), fun i hi => ?_, S, h3.self hc, fun i hi => ⟨(h4 i hi).1, fun hm => ?_⟩⟩
  · rw [List.mem_append] at hi
    rcases hi with hi | hi
    · exact (hG i hi).2
    · exact Nat.lt_of_lt_of_le (h2 i hi) hc.size
  · rw [List.mem_append] at hm
    rcases hm with hm | hm
    · have := (hG i hm).1; have := h3.lt i hi; omega
    · exact (h4 i hi).2 hm
theorem RTB.less (h : RTB w0 F w p most L) (hG : ∀ i ∈ G, i ∈ F) : RTB w0 G w p most L := by
  obtain ⟨h1, h2, S, h3, h4⟩ := h
  exact ⟨h1, fun i hi => h2 i (hG i hi), S, h3, fun i hi => ⟨(h4 i hi).1, fun hm => (h4 i hi).2 (hG i hm)⟩⟩
end
section
variable {w0 : World} {F : List Nat} {p most : Nat} {L : List Ht} {w : World}
theorem RTB.step {S S' : List Nat} {w' : World} {M : List Ht} (h1 : Chg [] w0 w) (h2 : ∀ i ∈ F, i < w.heap.size) (h4 : ∀ i ∈ S, w0.heap.size ≤ i ∧ i ∉ F) (hc : Chg S w w') (ht : RTAt w' S' p most M) (hG : Grew w S S') : RTB w0 F w' p most M ∧ Far F w w' := by
  refine ⟨⟨h1.trans hc (fun i hi hm => absurd (h4 i hm).1 (by omega)), fun i hi => Nat.lt_of_lt_of_le (h2 i hi) hc.size, S', ht, fun i hi => ?_⟩, S, hc, fun i hi => (h4 i hi).2⟩
  rcases hG i hi with h | h
  · exact h4 i h
  · exact ⟨Nat.le_trans h1.size h, fun hm => absurd (h2 i hm) (by omega)⟩
theorem RTPut_b (x : Ht) (h : RTB w0 F w p most L) :
    Calls Tryz.prog 63 #[.pointer (some ⟨p, 0, none⟩), x.v] w fun e w' => e = .returned (.tuple #[]) ∧ RTB w0 F w' p most (putT most L x) ∧ Far F w w' := by
  obtain ⟨h1, h2, S, h3, h4⟩ := h
  exact (RTPut_at S p most L x w h3).mono fun _ _ ⟨he, hc, S', ht, hG⟩ => ⟨he, RTB.step h1 h2 h4 hc ht hG⟩
theorem RTDrop_b (a pg : Int) (h : RTB w0 F w p most L) :
    Calls Tryz.prog 56 #[.pointer (some ⟨p, 0, none⟩), .int .i64 a, .int .i64 pg] w fun e w' => e = .returned (.bool (hasT L a pg)) ∧ RTB w0 F w' p most (dropT L a pg) ∧ Far F w w' := by
  obtain ⟨h1, h2, S, h3, h4⟩ := h
  exact (RTDrop_at S p most L a pg w h3).mono fun _ _ ⟨S', he, hc, ht, hG⟩ => ⟨he, RTB.step h1 h2 h4 hc ht hG⟩
theorem RTAll_b (h : RTB w0 F w p most L) :
    Calls Tryz.prog 58 #[.pointer (some ⟨p, 0, none⟩)] w fun e w' => e = .returned (.tuple #[]) ∧ RTB w0 F w' p most [] ∧ Far F w w' := by
  obtain ⟨h1, h2, S, h3, h4⟩ := h
  exact (RTAll_at S p most L w h3).mono fun _ _ ⟨S', he, hc, ht, hG⟩ => ⟨he, RTB.step h1 h2 h4 hc ht hG⟩
theorem RTGet_b (a pg : Int) (h : RTB w0 F w p most L) :
    Calls Tryz.prog 78 #[.pointer (some ⟨p, 0, none⟩), .int .i64 a, .int .i64 pg] w fun e w' => e = .returned (.tuple #[(getT L a pg).v, .bool (hasT L a pg)]) ∧ RTB w0 F w' p most L ∧ Chg [] w w' := by
  have h0 := h
  obtain ⟨h1, h2, S, h3, h4⟩ := h
  exact (RTGet_at S p most L a pg w h3).mono fun _ _ ⟨he, hc⟩ => ⟨he, h0.new hc, hc⟩
end

theorem RGAt.lt_ {w : World} {S : List Nat} {p : Nat} {L : List Int} (h : RGAt w S p L) : ∀ i ∈ S, i < w.heap.size := by
  obtain ⟨v, h1, h2, rfl, _⟩ := h
  intro i hi
  simp only [List.mem_cons] at hi
  rcases hi with rfl | hi
  · exact h1.lt
  · exact h2.lt i hi
/-- m is the document's model: its guest's memory q (of a map p of L, in the host h of n frames, whose words are b), what it knows lies in t; what of it turns is new since w0 and none of F; nothing of w0 has turned -/
structure RModB (w0 : World) (F : List Nat) (w : World) (m t q : Nat) (S : List Nat) (p : Nat) (L : List Int) (h b n : Nat) (s : Ms) : Prop where
  tb : RTB w0 (mB m q S h b ++ F) w t 512 s.T
  gu : RGuIn w q S p L h b n s.W
  st : Blk w m 102 #[.pointer (some ⟨q, 0, none⟩), .int .i64 s.r, .pointer (some ⟨t, 0, none⟩)]
  ok : OkM n L s
  nm : w0.heap.size ≤ m
  nb : w0.heap.size ≤ b
  ap : ∀ i ∈ mB m q S h b, i ∉ F
  ms : m ∉ b :: q :: h :: S

section
variable {w0 w w' : World} {F G : List Nat} {m t q p h b n : Nat} {S : List Nat} {L : List Int} {s : Ms}
theorem RGuIn.lt {W : List Int} (g : RGuIn w q S p L h b n W) : ∀ i ∈ b :: q :: h :: S, i < w.heap.size := by
  intro i hi
  simp only [List.mem_cons] at hi
  rcases hi with rfl | rfl | rfl | hi
  · exact g.hm.ws.lt
  · exact g.st.lt
  · exact g.hm.st.lt
  · exact RGAt.lt_ g.mp i hi
theorem RModB.c0 (H : RModB w0 F w m t q S p L h b n s) : Chg [] w0 w := H.tb.1
theorem RModB.c (H : RModB w0 F w m t q S p L h b n s) : w.cell? ⟨m, 0, none⟩ = some (.pointer (some ⟨q, 0, none⟩)) ∧ w.cell? ⟨m, 1, none⟩ = some (.int .i64 s.r) ∧ w.cell? ⟨m, 2, none⟩ = some (.pointer (some ⟨t, 0, none⟩)) := blk3 H.st
theorem RModB.lt (H : RModB w0 F w m t q S p L h b n s) : ∀ i ∈ mB m q S h b, i < w.heap.size := by
  intro i hi
  rw [mB, List.mem_cons] at hi
  rcases hi with rfl | hi
  · exact H.st.lt
  · exact H.gu.lt i hi
theorem RModB.bm (H : RModB w0 F w m t q S p L h b n s) : m ≠ b := fun e => H.ms (by rw [e]; simp)
theorem RModB.new (H : RModB w0 F w m t q S p L h b n s) (hc : Chg [] w w') : RModB w0 F w' m t q S p L h b n s :=
  ⟨H.tb.new hc, H.gu.self hc, hc.blk H.st (by simp), H.ok, H.nm, H.nb, H.ap, H.ms⟩
theorem RModB.less (H : RModB w0 F w m t q S p L h b n s) (hG : ∀ i ∈ G, i ∈ F) : RModB w0 G w m t q S p L h b n s :=
  ⟨H.tb.less (fun i hi => by rw [List.mem_append] at hi ⊢; exact hi.imp id (hG i)), H.gu, H.st, H.ok, H.nm, H.nb, fun i hi hm => H.ap i hi (hG i hm), H.ms⟩
theorem RModB.more (H : RModB w0 F w m t q S p L h b n s) (hc : Chg [] w w') (hG : ∀ i ∈ G, w.heap.size ≤ i ∧ i < w'.heap.size) : RModB w0 (G ++ F) w' m t q S p L h b n s :=
  ⟨(H.tb.more hc hG).less (fun i hi => by simp only [List.mem_append] at hi ⊢; rcases hi with h | h | h <;> simp [h]), H.gu.self hc, hc.blk H.st (by simp), H.ok, H.nm, H.nb, fun i hi hm => by
    rw [List.mem_append] at hm
    rcases hm with hm | hm
    · have := (hG i hm).1; have := H.lt i hi; omega
    · exact H.ap i hi hm, H.ms⟩
theorem RModB.setT {T' : List Ht} (H : RModB w0 F w m t q S p L h b n s) (ht : RTB w0 (mB m q S h b ++ F) w' t 512 T') (hf : Far (mB m q S h b ++ F) w w') (hok : OkM n L ⟨s.W, s.r, T'⟩) : RModB w0 F w' m t q S p L h b n ⟨s.W, s.r, T'⟩ := by
  obtain ⟨X, hc, hd⟩ := hf
  have hn : ∀ i ∈ mB m q S h b, i ∉ X := fun i hi hm => hd i hm (List.mem_append.2 (.inl hi))
  exact ⟨ht, H.gu.other hc (hn q (by simp [mB])) (fun i hi => hn i (by simp [mB, hi])) (hn h (by simp [mB])) (hn b (by simp [mB])), hc.blk H.st (hn m (by simp [mB])), hok, H.nm, H.nb, H.ap, H.ms⟩
theorem RModB.setW {W' : List Int} (H : RModB w0 F w m t q S p L h b n s) (hc : Chg [b] w w') (hg : RGuIn w' q S p L h b n W') (hok : OkM n L ⟨W', s.r, s.T⟩) : RModB w0 F w' m t q S p L h b n ⟨W', s.r, s.T⟩ ∧ Far F w w' :=
  ⟨⟨H.tb.other hc (by simp [mB]) (by simpa using H.nb), hg, hc.blk H.st (by simpa using H.bm), hok, H.nm, H.nb, H.ap, H.ms⟩, [b], hc, by simpa using H.ap b (by simp [mB])⟩
theorem RModB.setR (H : RModB w0 F w m t q S p L h b n s) (r' : Int) : RModB w0 F (w.setCell ⟨m, 1, none⟩ (.int .i64 r')) m t q S p L h b n ⟨s.W, r', s.T⟩ ∧ Far F w (w.setCell ⟨m, 1, none⟩ (.int .i64 r')) := by
  have hc : Chg [m] w (w.setCell ⟨m, 1, none⟩ (.int .i64 r')) := (Chg.refl _ _).setCell (by simp) _
  have hs := H.ms
  refine ⟨⟨H.tb.other hc (by simp [mB]) (by simpa using H.nm), H.gu.other hc ?_ ?_ ?_ ?_, ?_, ⟨H.ok.wd, H.ok.len, H.ok.hits⟩, H.nm, H.nb, H.ap, H.ms⟩, [m], hc, by simpa using H.ap m (by simp [mB])⟩
  · simp only [List.mem_cons, not_or] at hs; simpa using fun e => hs.2.1 e.symm
  · intro i hi hm; simp at hm; subst hm; simp only [List.mem_cons, not_or] at hs; exact hs.2.2.2 hi
  · simp only [List.mem_cons, not_or] at hs; simpa using fun e => hs.2.2.1 e.symm
  · simpa using fun e => H.bm e.symm
  · have := H.st.set_ 1 (.int .i64 r'); simpa using this
/-- a block of one's own turned -/
theorem RModB.own {g : Nat} (H : RModB w0 (g :: F) w m t q S p L h b n s) (hc : Chg [g] w w') (hg : w0.heap.size ≤ g) : RModB w0 F w' m t q S p L h b n s := by
  have hn : ∀ i ∈ mB m q S h b, i ∉ [g] := fun i hi hm => H.ap i hi (by simp at hm; simp [hm])
  exact ⟨(H.tb.other hc (by simp) (by simpa using hg)).less (fun i hi => by rw [List.mem_append] at hi ⊢; rcases hi with hi | hi <;> simp [hi]),
    H.gu.other hc (hn q (by simp [mB])) (fun i hi => hn i (by simp [mB, hi])) (hn h (by simp [mB])) (hn b (by simp [mB])), hc.blk H.st (hn m (by simp [mB])), H.ok, H.nm, H.nb, fun i hi hm => H.ap i hi (by simp [hm]), H.ms⟩
end

section
variable {w0 w w' : World} {F : List Nat} {m t q p h b n : Nat} {S : List Nat} {L : List Int} {s : Ms}
/-- a block of one's own turned, that stays apart -/
theorem RModB.turn {g : Nat} (H : RModB w0 F w m t q S p L h b n s) (hF : g ∈ F) (hc : Chg [g] w w') (hg : w0.heap.size ≤ g) : RModB w0 F w' m t q S p L h b n s := by
  have hn : ∀ i ∈ mB m q S h b, i ∉ [g] := fun i hi hm => H.ap i hi (by simp at hm; subst hm; exact hF)
  exact ⟨H.tb.other hc (by simp [hF]) (by simpa using hg),
    H.gu.other hc (hn q (by simp [mB])) (fun i hi => hn i (by simp [mB, hi])) (hn h (by simp [mB])) (hn b (by simp [mB])), hc.blk H.st (hn m (by simp [mB])), H.ok, H.nm, H.nb, H.ap, H.ms⟩
end

section
variable {w0 w : World} {F : List Nat} {m t q p h b n : Nat} {S : List Nat} {L : List Int} {s : Ms}
set_option maxHeartbeats 1000000 in
theorem RMNew_b (r : Int) (hc : Chg [] w0 w) (W : List Int) (gu : RGuIn w q S p L h b n W) (hW : WdW W) (hb : w0.heap.size ≤ b) :
    Calls Tryz.prog 15 #[.pointer (some ⟨q, 0, none⟩), .int .i64 r] w fun e w' => ∃ m t, e = .returned (.pointer (some ⟨m, 0, none⟩)) ∧ RModB w0 [] w' m t q S p L h b n ⟨W, r, []⟩ ∧ Chg [] w w' ∧ w.heap.size ≤ m ∧ ∀ X, RTAt w' X t 512 [] → True := by
  have hT := RTNew_in 512 w (by omega) (by omega)
  go_enter Tryz.func15, Tryz.ntmps15
  go_wp2_with fail
  refine hT.mono ?_; rintro e w1 ⟨rfl, k1, h3⟩
  go_wp2_with fail
  go_ret
  have k2 : Chg [] w (w1.alloc (.cells #[.pointer (some ⟨q, 0, none⟩), .int .i64 r, .pointer (some ⟨w.heap.size, 0, none⟩)] 102)) := k1.alloc _
  have hms : w1.heap.size ∉ b :: q :: h :: S := fun hm => by have := gu.lt _ hm; have := k1.size; omega
  refine ⟨_, _, rfl, ⟨⟨hc.trans k2 (by simp), fun i hi => ?_, _, h3.self ((Chg.refl [] w1).alloc _), fun i hi => ⟨?_, fun hm => ?_⟩⟩, gu.self k2, Blk.new _ _ _, ⟨hW, gu.hm.len, by simp⟩, by have := hc.size; have := k1.size; omega, hb, by simp, hms⟩, k2, k1.size, fun _ _ => trivial⟩
  · rw [List.append_nil, mB, List.mem_cons] at hi
    rcases hi with rfl | hi
    · simp
    · exact Nat.lt_of_lt_of_le (gu.lt i hi) k2.size
  · have := hc.size; simp at hi; omega
  · simp only [List.mem_cons, List.not_mem_nil, or_false] at hi
    subst hi
    rw [List.append_nil, mB, List.mem_cons] at hm
    rcases hm with hm | hm
    · have := h3.lt w.heap.size (by simp); omega
    · have := gu.lt _ hm; omega

set_option maxHeartbeats 1000000 in
theorem RMForget_b (page : Int) (H : RModB w0 F w m t q S p L h b n s) :
    Calls Tryz.prog 19 #[.pointer (some ⟨m, 0, none⟩), .int .i64 page] w fun e w' => e = .returned (.bool (hasT s.T 0 page)) ∧ RModB w0 F w' m t q S p L h b n (forgetM s page) ∧ Far F w w' := by
  obtain ⟨c0, c1, c2⟩ := H.c
  have hP := RTDrop_b 0 page H.tb
  have H0 := H
  clear H
  generalize hasT s.T 0 page = u at *
  go_enter Tryz.func19, Tryz.ntmps19
  go_wp2_with fail
  refine hP.mono ?_; rintro e w1 ⟨rfl, h1, f1⟩
  go_wp2_with fail
  go_ret
  exact ⟨rfl, H0.setT h1 f1 (H0.ok.drop _ _), f1.app⟩

set_option maxHeartbeats 1000000 in
theorem RMRoot_b (g : Int) (H : RModB w0 F w m t q S p L h b n s) :
    Calls Tryz.prog 21 #[.pointer (some ⟨m, 0, none⟩), .int .i64 g] w fun e w' => e = .returned (.tuple #[]) ∧ RModB w0 F w' m t q S p L h b n (rootM s g) ∧ Far F w w' := by
  obtain ⟨c0, c1, c2⟩ := H.c
  have fz := H.st.frozen 1
  obtain ⟨H1, f1⟩ := H.setR g
  obtain ⟨d0, d1, d2⟩ := H1.c
  have hA := RTAll_b H1.tb
  have hok : OkM n L (rootM s g) := H.ok.root g
  clear H
  go_enter Tryz.func21, Tryz.ntmps21
  go_wp2_with fail
  refine hA.mono ?_; rintro e w2 ⟨rfl, h2, f2⟩
  go_wp2_with fail
  go_end0
  exact ⟨rfl, H1.setT h2 f2 hok, f1.trans f2.app⟩

set_option maxHeartbeats 1000000 in
theorem RMAll_b (H : RModB w0 F w m t q S p L h b n s) :
    Calls Tryz.prog 30 #[.pointer (some ⟨m, 0, none⟩)] w fun e w' => ∃ A c, e = .returned (.slice A s.T.length c) ∧ Chg [] w w' ∧ OwnH w' (.slice A s.T.length c) s.T ∧ ∀ g ∈ (Value.slice A s.T.length c).ownBlock.toList, w.heap.size ≤ g := by
  obtain ⟨c0, c1, c2⟩ := H.c
  obtain ⟨_, _, X, h3, _⟩ := H.tb
  have hA := RTList_at X t 512 s.T w h3
  clear H h3
  go_enter Tryz.func30, Tryz.ntmps30
  go_wp2_with fail
  refine hA.mono ?_; rintro e w2 ⟨v, rfl, k2, ho, hg⟩
  obtain ⟨A, c, rfl, _, _⟩ := ho.form
  go_wp2_with fail
  go_ret
  exact ⟨A, c, rfl, k2, ho, hg⟩

set_option maxHeartbeats 1000000 in
theorem RMKnown_b (page : Int) (H : RModB w0 F w m t q S p L h b n s) :
    Calls Tryz.prog 27 #[.pointer (some ⟨m, 0, none⟩), .int .i64 page] w fun e w' => e = .returned (.tuple #[(getT s.T 0 page).v, .bool (hasT s.T 0 page)]) ∧ Chg [] w w' := by
  have hc0 : Chg [] w (w.alloc (.cells #[.int .i64 0, .int .i64 0, .int .i64 0, .bool false, .bool false, .bool false, .bool false] 45)) := (Chg.refl [] w).alloc _
  have hb := Blk.new w 45 #[.int .i64 0, .int .i64 0, .int .i64 0, .bool false, .bool false, .bool false, .bool false]
  obtain ⟨c0, c1, c2⟩ := H.c
  have hmlt := H.st.lt
  have hP := RTGet_b 0 page (H.new hc0).tb
  clear H
  generalize hasT s.T 0 page = u at *
  generalize getT s.T 0 page = x at *
  obtain ⟨ha, hp, hf, hw, hu, hx, hd⟩ := x
  simp only [Ht.v] at *
  go_enter Tryz.func27, Tryz.ntmps27
  go_wp2_with fail
  refine hP.mono ?_; rintro e w1 ⟨rfl, _, k1⟩
  have hb1 := hb.chg_ k1 (by simp)
  have hcc := hc0.trans k1 (by simp)
  obtain ⟨r0, r1, r2, r3, r4, r5, r6, f0, f1, f2, f3, f4, f5, f6⟩ := blk7 hb1
  clear hP hb k1 hc0
  go_wp2_with fail
  refine bodyPost_ret (cell_tmp_ret rfl (set7 hb1) rfl Tryz.underlying45 rfl (by kernel_rfl)) rfl ?_
  exact ⟨rfl, chg7 hcc (by omega)⟩

set_option maxHeartbeats 1000000 in
theorem RMEdit_b (g i v : Int) (hv : 0 ≤ v ∧ v < 18446744073709551616) (H : RModB w0 F w m t q S p L h b n s) :
    Calls Tryz.prog 17 #[.pointer (some ⟨m, 0, none⟩), .int .i64 g, .int .i64 i, .int .u64 v] w fun e w' => e = .returned (.agg (editM n L s g i v).2.cs) ∧ RModB w0 F w' m t q S p L h b n (editM n L s g i v).1 ∧ Far F w w' := by
  have hc0 : Chg [] w (w.alloc (.cells #[.int .i64 0, .int .u64 0, .int .i64 0, .int .u64 0] 37)) := (Chg.refl [] w).alloc _
  have hr := Blk.new w 37 #[.int .i64 0, .int .u64 0, .int .i64 0, .int .u64 0]
  have H1 := H.more (G := [w.heap.size]) hc0 (by intro i hi; simp at hi; subst hi; simp)
  obtain ⟨c0, c1, c2⟩ := H.c
  have hmlt := H.st.lt
  have hs0 : w0.heap.size ≤ w.heap.size := H.c0.size
  have hF : w.heap.size ∉ F := fun hm => by have := H.tb.2.1 _ (List.mem_append.2 (.inr hm)); omega
  have hbr : w.heap.size ≠ b := fun e => H1.ap b (by simp [mB]) (by simp [e])
  have hG := RGuSet_at q S p L h b n s.W g i v _ H1.gu
  have hok := H1.ok.set g i hv
  unfold editM
  clear H
  generalize hasG n L g i = u at *
  generalize setG n s.W L g i v = W' at *
  simp only [Ot.cs]
  cases u with
  | true =>
    simp only [if_true]
    go_enter Tryz.func17, Tryz.ntmps17
    go_wp2_with fail
    refine hG.mono ?_; rintro e w2 ⟨rfl, k2, g2⟩
    obtain ⟨H2, f2⟩ := H1.setW k2 g2 hok
    have hr2 := f2.blk hr (by simp)
    obtain ⟨r0, r1, r2, r3, z0, z1, z2, z3⟩ := blk4 hr2
    clear hG hr g2 k2
    go_wp2_with fail
    refine bodyPost_ret (cell_ret rfl (set4 hr2) rfl Tryz.underlying37 rfl (by kernel_rfl)) rfl ?_
    have hcg := chg4 (y0 := .int .i64 0) (y1 := .int .u64 0) (y2 := .int .i64 0) (y3 := .int .u64 0) (g := w.heap.size) (Chg.refl [w.heap.size] w2) (by simp)
    exact ⟨rfl, H2.own hcg hs0, (Far.of_new hc0).trans ((f2.less (fun i hi => by simp [hi])).trans ⟨_, hcg, by simpa using hF⟩)⟩
  | false =>
    simp only [Bool.false_eq_true, if_false]
    go_enter Tryz.func17, Tryz.ntmps17
    go_wp2_with fail
    refine hG.mono ?_; rintro e w2 ⟨rfl, k2, g2⟩
    obtain ⟨H2, f2⟩ := H1.setW k2 g2 hok
    have hr2 := f2.blk hr (by simp)
    obtain ⟨r0, r1, r2, r3, z0, z1, z2, z3⟩ := blk4 hr2
    clear hG hr g2 k2
    go_wp2_with fail
    refine bodyPost_ret (cell_ret rfl (set4 hr2) rfl Tryz.underlying37 rfl (by kernel_rfl)) rfl ?_
    have hcg := chg4 (y0 := .int .i64 3) (y1 := .int .u64 0) (y2 := .int .i64 0) (y3 := .int .u64 0) (g := w.heap.size) (Chg.refl [w.heap.size] w2) (by simp)
    exact ⟨rfl, H2.own hcg hs0, (Far.of_new hc0).trans ((f2.less (fun i hi => by simp [hi])).trans ⟨_, hcg, by simpa using hF⟩)⟩
end

end Go.Proofs.YtedginkenmafmaaGreatDoor
