/-
  ModelRA, ModelRB in one text.
-/
import Derived.Test.YtgebfagiomcmbaaGreatDoorG10bK
import Derived.Test.YtgebfagiomcmbaaGreatDoorG8rK
import Derived.Test.YtgebfagiomcmbaaGreatDoorG9rK
import Derived.Test.YtgebfagiomcmbaaGreatDoorG0K
namespace Go.Proofs.YtgebfagiomcmbaaGreatDoor
open Go.RowKit Go.Shelf Go.Maps

/-- p knows L, in blocks that are new since w0 and none of F; nothing of w0 has turned -/
def RTB (w0 : World) (F : List Nat) (w : World) (p most : Nat) (L : List Ht) : Prop :=
  Chg [] w0 w ∧ (∀ i ∈ F, i < w.heap.size) ∧ ∃ S, RTAt w S p most L ∧ ∀ i ∈ S, w0.heap.size ≤ i ∧ i ∉ F
section
variable {w0 w w' : World} {F G : List Nat} {p most : Nat} {L : List Ht}
theorem RTB.new (h : RTB w0 F w p most L) (hc : Chg [] w w') : RTB w0 F w' p most L := by
  obtain ⟨h1, h2, S, h3, h4⟩ := h
  exact ⟨h1.trans hc (by simp), fun i hi => Nat.lt_of_lt_of_le (h2 i hi) hc.size, S, h3.self hc, h4⟩
/-- another thing that is of one's own turned -/
theorem RTB.other (h : RTB w0 F w p most L) {T : List Nat} (hc : Chg T w w') (hT : ∀ i ∈ T, i ∈ F) (hT0 : ∀ i ∈ T, w0.heap.size ≤ i) : RTB w0 F w' p most L := by
  obtain ⟨h1, h2, S, h3, h4⟩ := h
  exact ⟨h1.trans hc (fun i hi hm => absurd (hT0 i hm) (by omega)), fun i hi => Nat.lt_of_lt_of_le (h2 i hi) hc.size, S, h3.chg hc (fun i hi hm => (h4 i hi).2 (hT i hm)), h4⟩
/-- what is new is apart, too -/
theorem RTB.more (h : RTB w0 F w p most L) (hc : Chg [] w w') (hG : ∀ i ∈ G, w.heap.size ≤ i ∧ i < w'.heap.size) : RTB w0 (G ++ F) w' p most L := by
  obtain ⟨h1, h2, S, h3, h4⟩ := h
  refine ⟨h1.trans hc (by simp), fun i hi => ?_, S, h3.self hc, fun i hi => ⟨(h4 i hi).1, fun hm => ?_⟩⟩
  · rw [List.mem_append] at hi
    rcases hi with hi | hi
    · exact (hG i hi).2
    · exact Nat.lt_of_lt_of_le (h2 i hi) hc.size
  · rw [List.mem_append] at hm
    rcases hm with hm | hm
    · have := (hG i hm).1; have := h3.lt i hi; omega
    · exact (h4 i hi).2 hm
theorem RTB.less (h : RTB w0 F w p most L) (hG : ∀ i ∈ G, i ∈ F) : RTB w0 G w p most L := by
  obtain ⟨h1, h2, S, h3, h4⟩ := h
  exact ⟨h1, fun i hi => h2 i (hG i hi), S, h3, fun i hi => ⟨(h4 i hi).1, fun hm => (h4 i hi).2 (hG i hm)⟩⟩
end
section
variable {w0 : World} {F : List Nat} {p most : Nat} {L : List Ht} {w : World}
theorem RTB.step {S S' : List Nat} {w' : World} {M : List Ht} (h1 : Chg [] w0 w) (h2 : ∀ i ∈ F, i < w.heap.size) (h4 : ∀ i ∈ S, w0.heap.size ≤ i ∧ i ∉ F) (hc : Chg S w w') (ht : RTAt w' S' p most M) (hG : Grew w S S') : RTB w0 F w' p most M ∧ Far F w w' := by
  refine ⟨⟨h1.trans hc (fun i hi hm => absurd (h4 i hm).1 (by omega)), fun i hi => Nat.lt_of_lt_of_le (h2 i hi) hc.size, S', ht, fun i hi => ?_⟩, S, hc, fun i hi => (h4 i hi).2⟩
  rcases hG i hi with h | h
  · exact h4 i h
  · exact ⟨Nat.le_trans h1.size h, fun hm => absurd (h2 i hm) (by omega)⟩
theorem RTPut_b (x : Ht) (h : RTB w0 F w p most L) :
    Calls Tryz.prog 61 #[.pointer (some ⟨p, 0, none⟩), x.v] w fun e w' => e = .returned (.tuple #[]) ∧ RTB w0 F w' p most (putT most L x) ∧ Far F w w' := by
  obtain ⟨h1, h2, S, h3, h4⟩ := h
  exact (RTPut_at S p most L x w h3).mono fun _ _ ⟨he, hc, S', ht, hG⟩ => ⟨he, RTB.step h1 h2 h4 hc ht hG⟩
theorem RTDrop_b (a pg : Int) (h : RTB w0 F w p most L) :
    Calls Tryz.prog 91 #[.pointer (some ⟨p, 0, none⟩), .int .i64 a, .int .i64 pg] w fun e w' => e = .returned (.bool (hasT L a pg)) ∧ RTB w0 F w' p most (dropT L a pg) ∧ Far F w w' := by
  obtain ⟨h1, h2, S, h3, h4⟩ := h
  exact (RTDrop_at S p most L a pg w h3).mono fun _ _ ⟨S', he, hc, ht, hG⟩ => ⟨he, RTB.step h1 h2 h4 hc ht hG⟩
theorem RTGet_b (a pg : Int) (h : RTB w0 F w p most L) :
    Calls Tryz.prog 90 #[.pointer (some ⟨p, 0, none⟩), .int .i64 a, .int .i64 pg] w fun e w' => e = .returned (.tuple #[(getT L a pg).v, .bool (hasT L a pg)]) ∧ RTB w0 F w' p most L ∧ Chg [] w w' := by
  have h0 := h
  obtain ⟨h1, h2, S, h3, h4⟩ := h
  exact (RTGet_at S p most L a pg w h3).mono fun _ _ ⟨he, hc⟩ => ⟨he, h0.new hc, hc⟩
end

theorem RGAt.lt_ {w : World} {S : List Nat} {p : Nat} {L : List Int} (h : RGAt w S p L) : ∀ i ∈ S, i < w.heap.size := by
  obtain ⟨v, h1, h2, rfl, _⟩ := h
  intro i hi
  simp only [List.mem_cons] at hi
  rcases hi with rfl | hi
  · exact h1.lt
  · exact h2.lt i hi
/-- m is the document's model: its guest's memory q (of a map p of L, in the host h of n frames, whose words are b), what it knows lies in t; what of it turns is new since w0 and none of F; nothing of w0 has turned -/
structure RModB (w0 : World) (F : List Nat) (w : World) (m t q : Nat) (S : List Nat) (p : Nat) (L : List Int) (h b n : Nat) (s : Ms) : Prop where
  tb : RTB w0 (mB m q S h b ++ F) w t 512 s.T
  gu : RGuIn w q S p L h b n s.W
  st : Blk w m 95 #[.pointer (some ⟨q, 0, none⟩), .int .i64 s.r, .pointer (some ⟨t, 0, none⟩)]
  ok : OkM n L s
  nm : w0.heap.size ≤ m
  nb : w0.heap.size ≤ b
  ap : ∀ i ∈ mB m q S h b, i ∉ F
  ms : m ∉ b :: q :: h :: S

section
variable {w0 w w' : World} {F G : List Nat} {m t q p h b n : Nat} {S : List Nat} {L : List Int} {s : Ms}
theorem RGuIn.lt {W : List Int} (g : RGuIn w q S p L h b n W) : ∀ i ∈ b :: q :: h :: S, i < w.heap.size := by
  intro i hi
  simp only [List.mem_cons] at hi
  rcases hi with rfl | rfl | rfl | hi
  · exact g.hm.ws.lt
  · exact g.st.lt
  · exact g.hm.st.lt
  · exact RGAt.lt_ g.mp i hi
theorem RModB.c0 (H : RModB w0 F w m t q S p L h b n s) : Chg [] w0 w := H.tb.1
theorem RModB.c (H : RModB w0 F w m t q S p L h b n s) : w.cell? ⟨m, 0, none⟩ = some (.pointer (some ⟨q, 0, none⟩)) ∧ w.cell? ⟨m, 1, none⟩ = some (.int .i64 s.r) ∧ w.cell? ⟨m, 2, none⟩ = some (.pointer (some ⟨t, 0, none⟩)) := blk3 H.st
theorem RModB.lt (H : RModB w0 F w m t q S p L h b n s) : ∀ i ∈ mB m q S h b, i < w.heap.size := by
  intro i hi
  rw [mB, List.mem_cons] at hi
  rcases hi with rfl | hi
  · exact H.st.lt
  · exact H.gu.lt i hi
theorem RModB.bm (H : RModB w0 F w m t q S p L h b n s) : m ≠ b := fun e => H.ms (by rw [e]; simp)
theorem RModB.new (H : RModB w0 F w m t q S p L h b n s) (hc : Chg [] w w') : RModB w0 F w' m t q S p L h b n s :=
  ⟨H.tb.new hc, H.gu.self hc, hc.blk H.st (by simp), H.ok, H.nm, H.nb, H.ap, H.ms⟩
theorem RModB.less (H : RModB w0 F w m t q S p L h b n s) (hG : ∀ i ∈ G, i ∈ F) : RModB w0 G w m t q S p L h b n s :=
  ⟨H.tb.less (fun i hi => by rw [List.mem_append] at hi ⊢; exact hi.imp id (hG i)), H.gu, H.st, H.ok, H.nm, H.nb, fun i hi hm => H.ap i hi (hG i hm), H.ms⟩
theorem RModB.more (H : RModB w0 F w m t q S p L h b n s) (hc : Chg [] w w') (hG : ∀ i ∈ G, w.heap.size ≤ i ∧ i < w'.heap.size) : RModB w0 (G ++ F) w' m t q S p L h b n s :=
  ⟨(H.tb.more hc hG).less (fun i hi => by simp only [List.mem_append] at hi ⊢; rcases hi with h | h | h <;> simp [h]), H.gu.self hc, hc.blk H.st (by simp), H.ok, H.nm, H.nb, fun i hi hm => by
    rw [List.mem_append] at hm
    rcases hm with hm | hm
    · have := (hG i hm).1; have := H.lt i hi; omega
    · exact H.ap i hi hm, H.ms⟩
theorem RModB.setT {T' : List Ht} (H : RModB w0 F w m t q S p L h b n s) (ht : RTB w0 (mB m q S h b ++ F) w' t 512 T') (hf : Far (mB m q S h b ++ F) w w') (hok : OkM n L ⟨s.W, s.r, T'⟩) : RModB w0 F w' m t q S p L h b n ⟨s.W, s.r, T'⟩ := by
  obtain ⟨X, hc, hd⟩ := hf
  have hn : ∀ i ∈ mB m q S h b, i ∉ X := fun i hi hm => hd i hm (List.mem_append.2 (.inl hi))
  exact ⟨ht, H.gu.other hc (hn q (by simp [mB])) (fun i hi => hn i (by simp [mB, hi])) (hn h (by simp [mB])) (hn b (by simp [mB])), hc.blk H.st (hn m (by simp [mB])), hok, H.nm, H.nb, H.ap, H.ms⟩
theorem RModB.setW {W' : List Int} (H : RModB w0 F w m t q S p L h b n s) (hc : Chg [b] w w') (hg : RGuIn w' q S p L h b n W') (hok : OkM n L ⟨W', s.r, s.T⟩) : RModB w0 F w' m t q S p L h b n ⟨W', s.r, s.T⟩ ∧ Far F w w' :=
  ⟨⟨H.tb.other hc (by simp [mB]) (by simpa using H.nb), hg, hc.blk H.st (by simpa using H.bm), hok, H.nm, H.nb, H.ap, H.ms⟩, [b], hc, by simpa using H.ap b (by simp [mB])⟩
/-- a block of one's own turned -/
theorem RModB.own {g : Nat} (H : RModB w0 (g :: F) w m t q S p L h b n s) (hc : Chg [g] w w') (hg : w0.heap.size ≤ g) : RModB w0 F w' m t q S p L h b n s := by
  have hn : ∀ i ∈ mB m q S h b, i ∉ [g] := fun i hi hm => H.ap i hi (by simp at hm; simp [hm])
  exact ⟨(H.tb.other hc (by simp) (by simpa using hg)).less (fun i hi => by rw [List.mem_append] at hi ⊢; rcases hi with hi | hi <;> simp [hi]),
    H.gu.other hc (hn q (by simp [mB])) (fun i hi => hn i (by simp [mB, hi])) (hn h (by simp [mB])) (hn b (by simp [mB])), hc.blk H.st (hn m (by simp [mB])), H.ok, H.nm, H.nb, fun i hi hm => H.ap i hi (by simp [hm]), H.ms⟩
end

section
variable {w0 w w' : World} {F : List Nat} {m t q p h b n : Nat} {S : List Nat} {L : List Int} {s : Ms}
/-- a block of one's own turned, that stays apart -/
theorem RModB.turn {g : Nat} (H : RModB w0 F w m t q S p L h b n s) (hF : g ∈ F) (hc : Chg [g] w w') (hg : w0.heap.size ≤ g) : RModB w0 F w' m t q S p L h b n s := by
  have hn : ∀ i ∈ mB m q S h b, i ∉ [g] := fun i hi hm => H.ap i hi (by simp at hm; subst hm; exact hF)
  exact ⟨H.tb.other hc (by simp [hF]) (by simpa using hg),
    H.gu.other hc (hn q (by simp [mB])) (fun i hi => hn i (by simp [mB, hi])) (hn h (by simp [mB])) (hn b (by simp [mB])), hc.blk H.st (hn m (by simp [mB])), H.ok, H.nm, H.nb, H.ap, H.ms⟩
end

section
variable {w0 w : World} {F : List Nat} {m t q p h b n : Nat} {S : List Nat} {L : List Int} {s : Ms}
set_option maxHeartbeats 1000000 in
theorem RMForget_b (page : Int) (H : RModB w0 F w m t q S p L h b n s) :
    Calls Tryz.prog 58 #[.pointer (some ⟨m, 0, none⟩), .int .i64 page] w fun e w' => e = .returned (.bool (hasT s.T 0 page)) ∧ RModB w0 F w' m t q S p L h b n (forgetM s page) ∧ Far F w w' := by
  obtain ⟨c0, c1, c2⟩ := H.c
  have hP := RTDrop_b 0 page H.tb
  have H0 := H
  clear H
  generalize hasT s.T 0 page = u at *
  go_enter Tryz.func58, Tryz.ntmps58
  go_wp2_with fail
  refine hP.mono ?_; rintro e w1 ⟨rfl, h1, f1⟩
  go_wp2_with fail
  go_ret
  exact ⟨rfl, H0.setT h1 f1 (H0.ok.drop _ _), f1.app⟩

set_option maxHeartbeats 1000000 in
theorem RMAll_b (H : RModB w0 F w m t q S p L h b n s) :
    Calls Tryz.prog 22 #[.pointer (some ⟨m, 0, none⟩)] w fun e w' => ∃ A c, e = .returned (.slice A s.T.length c) ∧ Chg [] w w' ∧ OwnH w' (.slice A s.T.length c) s.T ∧ ∀ g ∈ (Value.slice A s.T.length c).ownBlock.toList, w.heap.size ≤ g := by
  obtain ⟨c0, c1, c2⟩ := H.c
  obtain ⟨_, _, X, h3, _⟩ := H.tb
  have hA := RTList_at X t 512 s.T w h3
  clear H h3
  go_enter Tryz.func22, Tryz.ntmps22
  go_wp2_with fail
  refine hA.mono ?_; rintro e w2 ⟨v, rfl, k2, ho, hg⟩
  obtain ⟨A, c, rfl, _, _⟩ := ho.form
  go_wp2_with fail
  go_ret
  exact ⟨A, c, rfl, k2, ho, hg⟩

set_option maxHeartbeats 1000000 in
theorem RMKnown_b (page : Int) (H : RModB w0 F w m t q S p L h b n s) :
    Calls Tryz.prog 56 #[.pointer (some ⟨m, 0, none⟩), .int .i64 page] w fun e w' => e = .returned (.tuple #[(getT s.T 0 page).v, .bool (hasT s.T 0 page)]) ∧ Chg [] w w' := by
  have hc0 : Chg [] w (w.alloc (.cells #[.int .i64 0, .int .i64 0, .int .i64 0, .bool false, .bool false, .bool false, .bool false] 62)) := (Chg.refl [] w).alloc _
  have hb := Blk.new w 62 #[.int .i64 0, .int .i64 0, .int .i64 0, .bool false, .bool false, .bool false, .bool false]
  obtain ⟨c0, c1, c2⟩ := H.c
  have hmlt := H.st.lt
  have hP := RTGet_b 0 page (H.new hc0).tb
  clear H
  generalize hasT s.T 0 page = u at *
  generalize getT s.T 0 page = x at *
  obtain ⟨ha, hp, hf, hw, hu, hx, hd⟩ := x
  simp only [Ht.v] at *
  go_enter Tryz.func56, Tryz.ntmps56
  go_wp2_with fail
  refine hP.mono ?_; rintro e w1 ⟨rfl, _, k1⟩
  have hb1 := hb.chg_ k1 (by simp)
  have hcc := hc0.trans k1 (by simp)
  obtain ⟨r0, r1, r2, r3, r4, r5, r6, f0, f1, f2, f3, f4, f5, f6⟩ := blk7 hb1
  clear hP hb k1 hc0
  go_wp2_with fail
  refine bodyPost_ret (cell_tmp_ret rfl (set7 hb1) rfl Tryz.underlying62 rfl (by kernel_rfl)) rfl ?_
  exact ⟨rfl, chg7 hcc (by omega)⟩

end

end Go.Proofs.YtgebfagiomcmbaaGreatDoor

namespace Go.Proofs.YtgebfagiomcmbaaGreatDoor
open Go.RowKit Go.Shelf Go.Maps

/-- an operation that is wanted is done (take_on, what goes by itself left to itself) -/
theorem tk {P : Program} {md : Region.Mode} {ops : Array Oper} {Q : Exit → Act → World → Prop} {S : World → Prop} (i : Nat) (d : Option Tmp) {oi : Oper} {v : Value} {fuel : Nat} {listed : Array Bool} {a : Act} {w : World} (hi : ops[i]? = some oi)
    (hy : ∀ w, S w → (execOp a.eval oi).run P w = .ok (.value v) w) (h : wpAnyH P md ops Q S fuel (listed.setIfInBounds i true) (a.put d v) w) (hd : oi.dst = d := by rfl)
    (hs : Region.noSelect ops = true := by kernel_rfl) (hf : Region.free md ops listed i = true := by kernel_rfl) (hr : (Region.ready md ops listed).contains i = true := by kernel_rfl)
    (hQ : ∀ c a w, Q (.panic c) (a.put oi.dst v) w → Q (.panic c) a w := by exact fun _ _ _ h => h) (hw : Region.wanted oi (yielded ops a.tmps) = true := by rfl) (hS : S w := by assumption) : wpAnyH P md ops Q S (fuel + 1) listed a w :=
  take_on i d hi hd hs hf hr hQ hw hS hy h
theorem tA {α : Type} (l : List α) (i : Nat) (a : α) : l.toArray.setIfInBounds i a = (l.set i a).toArray := List.setIfInBounds_toArray ..
theorem tZ {α : Type} {a b : α} {l : List α} : (a :: l).set 0 b = b :: l := rfl
theorem tS {α : Type} {a b : α} {l : List α} {n : Nat} : (a :: l).set (n + 1) b = a :: l.set n b := rfl

section
variable {w0 w : World} {F : List Nat} {m t q p h b n : Nat} {S : List Nat} {L : List Int} {s : Ms}
/-- a Walk from the model's root, anywhere behind w -/
theorem RModB.walk (H : RModB w0 F w m t q S p L h b n s) (page k : Int) (u : Bool) (P : Pa) (how code : Int) (hr : walkP n s.W L s.r page k u = (P, how, code)) :
    ∀ w1, Chg [] w w1 → Calls Tryz.prog 59 #[.pointer (some ⟨q, 0, none⟩), .int .i64 s.r, .int .i64 page, .int .i64 k, .bool u] w1 fun e w' =>
      ∃ A c, e = .returned (.tuple #[.agg (pathV A c P), .int .i64 how, .int .i64 code]) ∧ OwnA w' 158 (.slice A P.ats.length c) P.ats ∧ (∀ g ∈ (Value.slice A P.ats.length c).ownBlock.toList, w1.heap.size ≤ g) ∧ Chg [] w1 w' :=
  fun w1 hc => RWalk_is q S p L h b n s.W s.r page k u P how code w1 (H.new hc).gu H.ok.wd hr

set_option maxRecDepth 100000 in
set_option maxHeartbeats 8000000 in
theorem rfind_known (page : Int) (H : RModB w0 F w m t q S p L h b n s) (P : Pa) (how code : Int) (hu : hasT s.T 0 page = true) (hr : walkP n s.W L s.r page 0 false = (P, how, code)) :
    Calls Tryz.prog 67 #[.pointer (some ⟨m, 0, none⟩), .int .i64 page] w fun e w' => e = .returned (.bool false) ∧ RModB w0 F w' m t q S p L h b n s ∧ Far F w w' := by
  have hP := RMKnown_b page H
  rw [hu] at hP
  clear hu
  generalize getT s.T 0 page = x at hP
  obtain ⟨xa, xp, xf, xw, xu, xx, xd⟩ := x
  simp only [Ht.v] at hP
  have H0 := H
  have hWk0 := fun w9 (k9 : Chg [] w w9) => (H.new k9).walk page 0 false P how code hr
  have hlen := walk_len hr
  have hall : P.ats.length ≤ 9223372036854775807 := by omega
  obtain ⟨ats, pg, ⟨rw, ru, rx⟩, lg, dy⟩ := P
  simp only [pathV] at *
  clear hr
  obtain ⟨sW, sr, sT⟩ := s
  simp only at *
  clear H
  go_enter Tryz.func67, Tryz.ntmps67
  go_wp2_with fail
  refine hP.mono ?_; rintro e u0 ⟨rfl, k0⟩
  have k1 : Chg [] w (u0.alloc (.cells #[.int .i64 xa, .int .i64 xp, .int .i64 xf, .bool xw, .bool xu, .bool xx, .bool xd] 62)) := k0.alloc _
  go_wp2_with fail
  generalize u0.alloc (.cells #[.int .i64 xa, .int .i64 xp, .int .i64 xf, .bool xw, .bool xu, .bool xx, .bool xd] 62) = w1 at *
  have hm1 := k1.blk H0.st (by simp)
  have hWk := hWk0 w1 k1
  clear hWk0 hP k0
  refine wp_region_noPanic ?_
  refine wp_region_held_drew (S := (fun w' => Blk w' m 95 #[.pointer (some ⟨q, 0, none⟩), .int .i64 sr, .pointer (some ⟨t, 0, none⟩)])) (by kernel_rfl) ?_ (fun hHeld => ?_)
  · exact hm1.drew
  (refine tk 0 (some 17) (v := ?_) rfl ?_ ?_; rotate_left; · (intro w hSw; (try dsimp only at hSw); obtain ⟨c0_, c1_, c2_⟩ := blk3 hSw; go_simp; (try with_reducible rfl)))
  (try simp only [Act.put, tA, tZ, tS])
  (refine tk 1 (some 18) (v := ?_) rfl ?_ ?_; rotate_left; · (intro w hSw; (try dsimp only at hSw); obtain ⟨c0_, c1_, c2_⟩ := blk3 hSw; go_simp; (try with_reducible rfl)))
  (try simp only [Act.put, tA, tZ, tS])
  (refine tk 2 (some 19) (v := ?_) rfl ?_ ?_; rotate_left; · (intro w hSw; (try dsimp only at hSw); obtain ⟨c0_, c1_, c2_⟩ := blk3 hSw; go_simp; (try with_reducible rfl)))
  (try simp only [Act.put, tA, tZ, tS])
  (refine tk 3 (some 20) (v := ?_) rfl ?_ ?_; rotate_left; · (intro w hSw; (try dsimp only at hSw); obtain ⟨c0_, c1_, c2_⟩ := blk3 hSw; go_simp; (try with_reducible rfl)))
  (try simp only [Act.put, tA, tZ, tS])
  (refine tk 4 (some 21) (v := ?_) rfl ?_ ?_; rotate_left; · (intro w hSw; (try dsimp only at hSw); obtain ⟨c0_, c1_, c2_⟩ := blk3 hSw; go_simp; (try with_reducible rfl)))
  (try simp only [Act.put, tA, tZ, tS])
  (refine tk 5 (some 22) (v := ?_) rfl ?_ ?_; rotate_left; · (intro w hSw; (try dsimp only at hSw); obtain ⟨c0_, c1_, c2_⟩ := blk3 hSw; go_simp; (try with_reducible rfl)))
  (try simp only [Act.put, tA, tZ, tS])
  (refine tk 6 (some 23) (v := ?_) rfl ?_ ?_; rotate_left; · (intro w hSw; (try dsimp only at hSw); obtain ⟨c0_, c1_, c2_⟩ := blk3 hSw; go_simp; (try with_reducible rfl)))
  (try simp only [Act.put, tA, tZ, tS])
  (refine tk 7 (some 24) (v := ?_) rfl ?_ ?_; rotate_left; · (intro w hSw; (try dsimp only at hSw); obtain ⟨c0_, c1_, c2_⟩ := blk3 hSw; go_simp; (try with_reducible rfl)))
  (try simp only [Act.put, tA, tZ, tS])
  (refine tk 8 (some 25) (v := ?_) rfl ?_ ?_; rotate_left; · (intro w hSw; (try dsimp only at hSw); obtain ⟨c0_, c1_, c2_⟩ := blk3 hSw; go_simp; (try with_reducible rfl)))
  (try simp only [Act.put, tA, tZ, tS])
  refine wpAnyH_ready (rs := [9, 14]) (by kernel_rfl) (by simp) ?_; refine AllReadyH.cons (o := _) rfl (fun K hK => ?_) (AllReadyH.cons (o := _) rfl (fun K hK => ?_) AllReadyH.nil)
  · go_simp
    (go_at_call 59; refine (hWk _ ((Chg.refl [] w1).drew)).mono ?_; rintro e u1 ⟨A, c, rfl, r1, l1, y1⟩; simp only at *)
    refine hK.out _ _ (by (try dsimp only); exact hHeld.chg_ y1 (by simp)) (fun hHeld => ?_)
    clear hK K
    (try simp only [Act.put, tA, tZ, tS])
    (refine tk 10 (some 16) (v := ?_) rfl ?_ ?_; rotate_left; · (intro w hSw; (try dsimp only at hSw); go_simp; (try with_reducible rfl)))
    (try simp only [Act.put, tA, tZ, tS])
    (refine tk 11 (some 27) (v := ?_) rfl ?_ ?_; rotate_left; · (intro w hSw; (try dsimp only at hSw); go_simp; (try with_reducible rfl)))
    (try simp only [Act.put, tA, tZ, tS])
    (refine tk 12 (some 28) (v := ?_) rfl ?_ ?_; rotate_left; · (intro w hSw; (try dsimp only at hSw); go_simp; (try with_reducible rfl)))
    (try simp only [Act.put, tA, tZ, tS])
    (refine tk 13 (some 29) (v := ?_) rfl ?_ ?_; rotate_left; · (intro w hSw; (try dsimp only at hSw); go_simp; (try with_reducible rfl)))
    (try simp only [Act.put, tA, tZ, tS])
    refine wpAnyH_ready (rs := [14]) (by kernel_rfl) (by simp) ?_; refine AllReadyH.cons (o := _) rfl (fun K hK => ?_) AllReadyH.nil
    go_simp
    skip
    refine hK.out _ _ (by (try dsimp only); exact Blk.alloc hHeld _) (fun hHeld => ?_)
    clear hK K
    (try simp only [Act.put, tA, tZ, tS])
    have x0 : Chg [] w1 (u1.alloc (.cells #[.slice none 0 0, .int .i64 0, .bool false, .bool false, .bool false, .bool false, .bool false] 108)) := (((Chg.refl [] w1).drew).trans y1 (by simp)).alloc _
    have hp0 := Blk.new u1 108 #[.slice none 0 0, .int .i64 0, .bool false, .bool false, .bool false, .bool false, .bool false]
    have hne : m ≠ u1.heap.size := by have h1 := hm1.lt; have h2 := x0.size; have h3 := y1.size; simp at h2 h3; omega
    have hlo : ∀ g ∈ (Value.slice A ats.length c).ownBlock.toList, w1.heap.size ≤ g ∧ g ≠ u1.heap.size := fun g hg => ⟨by simpa using l1 g hg, by have := OwnA.lt r1 g hg; omega⟩
    have r2 := OwnA.self r1 ((Chg.refl [] u1).alloc (.cells #[.slice none 0 0, .int .i64 0, .bool false, .bool false, .bool false, .bool false, .bool false] 108))
    have hpl : w1.heap.size ≤ u1.heap.size := by simpa using y1.size
    clear r1 l1 y1
    generalize hu2 : u1.alloc (.cells #[.slice none 0 0, .int .i64 0, .bool false, .bool false, .bool false, .bool false, .bool false] 108) = u2 at *
    generalize u1.heap.size = pb at *
    clear hu2
    obtain ⟨z0, z1, z2, z3, z4, z5, z6, g0, g1, g2, g3, g4, g5, g6⟩ := blk7 hp0
    refine wpAnyH_ready (rs := [15]) (by kernel_rfl) (by simp) ?_; refine AllReadyH.cons (o := _) rfl (fun K hK => ?_) AllReadyH.nil
    go_simp
    skip
    refine hK.out _ _ (by (try dsimp only); exact far7 hHeld hne) (fun hHeld => ?_)
    clear hK K
    (try simp only [Act.put, tA, tZ, tS])
    (refine tk 16 (some 8) (v := ?_) rfl ?_ ?_; rotate_left; · (intro w hSw; (try dsimp only at hSw); go_simp; (try with_reducible rfl)))
    (try simp only [Act.put, tA, tZ, tS])
    (refine tk 17 (some 9) (v := ?_) rfl ?_ ?_; rotate_left; · (intro w hSw; (try dsimp only at hSw); go_simp; (try with_reducible rfl)))
    (try simp only [Act.put, tA, tZ, tS])
    refine wpAnyH_done (by kernel_rfl) ?_ _
    refine NoPanic.normal ?_
    have hp3 := set7 (y0 := .slice A ats.length c) (y1 := .int .i64 pg) (y2 := .bool rw) (y3 := .bool ru) (y4 := .bool rx) (y5 := .bool lg) (y6 := .bool dy) hp0
    have x3 : Chg [] w1 _ := x0.trans (chg7 (y0 := .slice A ats.length c) (y1 := .int .i64 pg) (y2 := .bool rw) (y3 := .bool ru) (y4 := .bool rx) (y5 := .bool lg) (y6 := .bool dy) (g := pb) (Chg.refl [pb] u2) (by simp)) (by intro i hi hm; simp at hm; subst hm; omega)
    have r3 := OwnA.chg r2 (chg7 (y0 := .slice A ats.length c) (y1 := .int .i64 pg) (y2 := .bool rw) (y3 := .bool ru) (y4 := .bool rx) (y5 := .bool lg) (y6 := .bool dy) (g := pb) (Chg.refl [pb] u2) (by simp)) (fun g hg hm => by simp at hm; exact (hlo g hg).2 hm)
    have hpb := hp3.lt
    clear hHeld r2 hp0 x0 z0 z1 z2 z3 z4 z5 z6 g0 g1 g2 g3 g4 g5 g6
    generalize ((((((u2.setCell ⟨pb, 0, none⟩ (.slice A ats.length c)).setCell ⟨pb, 1, none⟩ (.int .i64 pg)).setCell ⟨pb, 2, none⟩ (.bool rw)).setCell ⟨pb, 3, none⟩ (.bool ru)).setCell ⟨pb, 4, none⟩ (.bool rx)).setCell ⟨pb, 5, none⟩ (.bool lg)).setCell ⟨pb, 6, none⟩ (.bool dy) = w3 at *
    have hlo := fun g hg => (hlo g hg).1
    clear hne hWk
    have k3 : Chg [] w w3 := k1.trans x3 (by simp)
    have H3 := H0.more (G := [pb]) k3 (by intro i hi; simp at hi; subst hi; exact ⟨Nat.le_trans k1.size hpl, hpb⟩)
    clear x3 hm1
    go_wp2_with fail
    refine wp_region_cls (by kernel_rfl) (by kernel_rfl) ?_
    repeat (go_big_quiet_step (fail))
    refine wpQuiet_nil ?_
    rintro _ ⟨n5, rfl⟩
    have k5 := k3.trans n5.ok (by simp)
    have H5 := H3.new n5.ok
    have hp5 := n5.blk hp3
    go_wp2_with fail
    go_ret
    exact ⟨rfl, H5.less (fun i hi => by simp [hi]), Far.of_new k5⟩
  · go_simp
    skip
    refine hK.out _ _ (by (try dsimp only); exact Blk.alloc hHeld _) (fun hHeld => ?_)
    clear hK K
    (try simp only [Act.put, tA, tZ, tS])
    have x9 : Chg [] w1 (w1.drew.alloc (.cells #[.slice none 0 0, .int .i64 0, .bool false, .bool false, .bool false, .bool false, .bool false] 108)) := ((Chg.refl [] w1).drew).alloc _
    have hp9 : Blk (w1.drew.alloc (.cells #[.slice none 0 0, .int .i64 0, .bool false, .bool false, .bool false, .bool false, .bool false] 108)) w1.heap.size 108 #[.slice none 0 0, .int .i64 0, .bool false, .bool false, .bool false, .bool false, .bool false] := Blk.new w1.drew _ _
    refine wpAnyH_ready (rs := [9]) (by kernel_rfl) (by simp) ?_; refine AllReadyH.cons (o := _) rfl (fun K hK => ?_) AllReadyH.nil
    go_simp
    (go_at_call 59; refine (hWk _ x9).mono ?_; rintro e u1 ⟨A, c, rfl, r1, l1, y1⟩; simp only at *)
    refine hK.out _ _ (by (try dsimp only); exact hHeld.chg_ y1 (by simp)) (fun hHeld => ?_)
    clear hK K
    (try simp only [Act.put, tA, tZ, tS])
    (refine tk 10 (some 16) (v := ?_) rfl ?_ ?_; rotate_left; · (intro w hSw; (try dsimp only at hSw); go_simp; (try with_reducible rfl)))
    (try simp only [Act.put, tA, tZ, tS])
    (refine tk 11 (some 27) (v := ?_) rfl ?_ ?_; rotate_left; · (intro w hSw; (try dsimp only at hSw); go_simp; (try with_reducible rfl)))
    (try simp only [Act.put, tA, tZ, tS])
    (refine tk 12 (some 28) (v := ?_) rfl ?_ ?_; rotate_left; · (intro w hSw; (try dsimp only at hSw); go_simp; (try with_reducible rfl)))
    (try simp only [Act.put, tA, tZ, tS])
    (refine tk 13 (some 29) (v := ?_) rfl ?_ ?_; rotate_left; · (intro w hSw; (try dsimp only at hSw); go_simp; (try with_reducible rfl)))
    (try simp only [Act.put, tA, tZ, tS])
    have x0 : Chg [] w1 u1 := x9.trans y1 (by simp)
    have hp0 := hp9.chg_ y1 (by simp)
    obtain ⟨pb, hpe⟩ : ∃ pb, pb = w1.heap.size := ⟨_, rfl⟩
    have hne : m ≠ pb := by have h1 := hm1.lt; omega
    have hlo : ∀ g ∈ (Value.slice A ats.length c).ownBlock.toList, w1.heap.size ≤ g ∧ g ≠ pb := fun g hg => by have := l1 g hg; simp at this; omega
    have hpl : w1.heap.size ≤ pb := by omega
    rw [← hpe] at hp0 ⊢
    have r2 := r1
    clear r1 l1 y1 x9 hp9 hpe
    generalize hu2 : u1 = u2 at *
    clear hu2
    obtain ⟨z0, z1, z2, z3, z4, z5, z6, g0, g1, g2, g3, g4, g5, g6⟩ := blk7 hp0
    refine wpAnyH_ready (rs := [15]) (by kernel_rfl) (by simp) ?_; refine AllReadyH.cons (o := _) rfl (fun K hK => ?_) AllReadyH.nil
    go_simp
    skip
    refine hK.out _ _ (by (try dsimp only); exact far7 hHeld hne) (fun hHeld => ?_)
    clear hK K
    (try simp only [Act.put, tA, tZ, tS])
    (refine tk 16 (some 8) (v := ?_) rfl ?_ ?_; rotate_left; · (intro w hSw; (try dsimp only at hSw); go_simp; (try with_reducible rfl)))
    (try simp only [Act.put, tA, tZ, tS])
    (refine tk 17 (some 9) (v := ?_) rfl ?_ ?_; rotate_left; · (intro w hSw; (try dsimp only at hSw); go_simp; (try with_reducible rfl)))
    (try simp only [Act.put, tA, tZ, tS])
    refine wpAnyH_done (by kernel_rfl) ?_ _
    refine NoPanic.normal ?_
    have hp3 := set7 (y0 := .slice A ats.length c) (y1 := .int .i64 pg) (y2 := .bool rw) (y3 := .bool ru) (y4 := .bool rx) (y5 := .bool lg) (y6 := .bool dy) hp0
    have x3 : Chg [] w1 _ := x0.trans (chg7 (y0 := .slice A ats.length c) (y1 := .int .i64 pg) (y2 := .bool rw) (y3 := .bool ru) (y4 := .bool rx) (y5 := .bool lg) (y6 := .bool dy) (g := pb) (Chg.refl [pb] u2) (by simp)) (by intro i hi hm; simp at hm; subst hm; omega)
    have r3 := OwnA.chg r2 (chg7 (y0 := .slice A ats.length c) (y1 := .int .i64 pg) (y2 := .bool rw) (y3 := .bool ru) (y4 := .bool rx) (y5 := .bool lg) (y6 := .bool dy) (g := pb) (Chg.refl [pb] u2) (by simp)) (fun g hg hm => by simp at hm; exact (hlo g hg).2 hm)
    have hpb := hp3.lt
    clear hHeld r2 hp0 x0 z0 z1 z2 z3 z4 z5 z6 g0 g1 g2 g3 g4 g5 g6
    generalize ((((((u2.setCell ⟨pb, 0, none⟩ (.slice A ats.length c)).setCell ⟨pb, 1, none⟩ (.int .i64 pg)).setCell ⟨pb, 2, none⟩ (.bool rw)).setCell ⟨pb, 3, none⟩ (.bool ru)).setCell ⟨pb, 4, none⟩ (.bool rx)).setCell ⟨pb, 5, none⟩ (.bool lg)).setCell ⟨pb, 6, none⟩ (.bool dy) = w3 at *
    have hlo := fun g hg => (hlo g hg).1
    clear hne hWk
    have k3 : Chg [] w w3 := k1.trans x3 (by simp)
    have H3 := H0.more (G := [pb]) k3 (by intro i hi; simp at hi; subst hi; exact ⟨Nat.le_trans k1.size hpl, hpb⟩)
    clear x3 hm1
    go_wp2_with fail
    refine wp_region_cls (by kernel_rfl) (by kernel_rfl) ?_
    repeat (go_big_quiet_step (fail))
    refine wpQuiet_nil ?_
    rintro _ ⟨n5, rfl⟩
    have k5 := k3.trans n5.ok (by simp)
    have H5 := H3.new n5.ok
    have hp5 := n5.blk hp3
    go_wp2_with fail
    go_ret
    exact ⟨rfl, H5.less (fun i hi => by simp [hi]), Far.of_new k5⟩

set_option maxRecDepth 100000 in
set_option maxHeartbeats 8000000 in
theorem rfind_stop (page : Int) (H : RModB w0 F w m t q S p L h b n s) (P : Pa) (how code : Int) (hu : hasT s.T 0 page = false) (hr : walkP n s.W L s.r page 0 false = (P, how, code)) (hne0 : (how == 0) = false) :
    Calls Tryz.prog 67 #[.pointer (some ⟨m, 0, none⟩), .int .i64 page] w fun e w' => e = .returned (.bool false) ∧ RModB w0 F w' m t q S p L h b n s ∧ Far F w w' := by
  have hP := RMKnown_b page H
  rw [hu] at hP
  clear hu
  generalize getT s.T 0 page = x at hP
  obtain ⟨xa, xp, xf, xw, xu, xx, xd⟩ := x
  simp only [Ht.v] at hP
  have H0 := H
  have hWk0 := fun w9 (k9 : Chg [] w w9) => (H.new k9).walk page 0 false P how code hr
  have hlen := walk_len hr
  have hall : P.ats.length ≤ 9223372036854775807 := by omega
  obtain ⟨ats, pg, ⟨rw, ru, rx⟩, lg, dy⟩ := P
  simp only [pathV] at *
  clear hr
  obtain ⟨sW, sr, sT⟩ := s
  simp only at *
  clear H
  go_enter Tryz.func67, Tryz.ntmps67
  go_wp2_with fail
  refine hP.mono ?_; rintro e u0 ⟨rfl, k0⟩
  have k1 : Chg [] w (u0.alloc (.cells #[.int .i64 xa, .int .i64 xp, .int .i64 xf, .bool xw, .bool xu, .bool xx, .bool xd] 62)) := k0.alloc _
  go_wp2_with fail
  generalize u0.alloc (.cells #[.int .i64 xa, .int .i64 xp, .int .i64 xf, .bool xw, .bool xu, .bool xx, .bool xd] 62) = w1 at *
  have hm1 := k1.blk H0.st (by simp)
  have hWk := hWk0 w1 k1
  clear hWk0 hP k0
  refine wp_region_noPanic ?_
  refine wp_region_held_drew (S := (fun w' => Blk w' m 95 #[.pointer (some ⟨q, 0, none⟩), .int .i64 sr, .pointer (some ⟨t, 0, none⟩)])) (by kernel_rfl) ?_ (fun hHeld => ?_)
  · exact hm1.drew
  (refine tk 0 (some 17) (v := ?_) rfl ?_ ?_; rotate_left; · (intro w hSw; (try dsimp only at hSw); obtain ⟨c0_, c1_, c2_⟩ := blk3 hSw; go_simp; (try with_reducible rfl)))
  (try simp only [Act.put, tA, tZ, tS])
  (refine tk 1 (some 18) (v := ?_) rfl ?_ ?_; rotate_left; · (intro w hSw; (try dsimp only at hSw); obtain ⟨c0_, c1_, c2_⟩ := blk3 hSw; go_simp; (try with_reducible rfl)))
  (try simp only [Act.put, tA, tZ, tS])
  (refine tk 2 (some 19) (v := ?_) rfl ?_ ?_; rotate_left; · (intro w hSw; (try dsimp only at hSw); obtain ⟨c0_, c1_, c2_⟩ := blk3 hSw; go_simp; (try with_reducible rfl)))
  (try simp only [Act.put, tA, tZ, tS])
  (refine tk 3 (some 20) (v := ?_) rfl ?_ ?_; rotate_left; · (intro w hSw; (try dsimp only at hSw); obtain ⟨c0_, c1_, c2_⟩ := blk3 hSw; go_simp; (try with_reducible rfl)))
  (try simp only [Act.put, tA, tZ, tS])
  (refine tk 4 (some 21) (v := ?_) rfl ?_ ?_; rotate_left; · (intro w hSw; (try dsimp only at hSw); obtain ⟨c0_, c1_, c2_⟩ := blk3 hSw; go_simp; (try with_reducible rfl)))
  (try simp only [Act.put, tA, tZ, tS])
  (refine tk 5 (some 22) (v := ?_) rfl ?_ ?_; rotate_left; · (intro w hSw; (try dsimp only at hSw); obtain ⟨c0_, c1_, c2_⟩ := blk3 hSw; go_simp; (try with_reducible rfl)))
  (try simp only [Act.put, tA, tZ, tS])
  (refine tk 6 (some 23) (v := ?_) rfl ?_ ?_; rotate_left; · (intro w hSw; (try dsimp only at hSw); obtain ⟨c0_, c1_, c2_⟩ := blk3 hSw; go_simp; (try with_reducible rfl)))
  (try simp only [Act.put, tA, tZ, tS])
  (refine tk 7 (some 24) (v := ?_) rfl ?_ ?_; rotate_left; · (intro w hSw; (try dsimp only at hSw); obtain ⟨c0_, c1_, c2_⟩ := blk3 hSw; go_simp; (try with_reducible rfl)))
  (try simp only [Act.put, tA, tZ, tS])
  (refine tk 8 (some 25) (v := ?_) rfl ?_ ?_; rotate_left; · (intro w hSw; (try dsimp only at hSw); obtain ⟨c0_, c1_, c2_⟩ := blk3 hSw; go_simp; (try with_reducible rfl)))
  (try simp only [Act.put, tA, tZ, tS])
  refine wpAnyH_ready (rs := [9, 14]) (by kernel_rfl) (by simp) ?_; refine AllReadyH.cons (o := _) rfl (fun K hK => ?_) (AllReadyH.cons (o := _) rfl (fun K hK => ?_) AllReadyH.nil)
  · go_simp
    (go_at_call 59; refine (hWk _ ((Chg.refl [] w1).drew)).mono ?_; rintro e u1 ⟨A, c, rfl, r1, l1, y1⟩; simp only at *)
    refine hK.out _ _ (by (try dsimp only); exact hHeld.chg_ y1 (by simp)) (fun hHeld => ?_)
    clear hK K
    (try simp only [Act.put, tA, tZ, tS])
    (refine tk 10 (some 16) (v := ?_) rfl ?_ ?_; rotate_left; · (intro w hSw; (try dsimp only at hSw); go_simp; (try with_reducible rfl)))
    (try simp only [Act.put, tA, tZ, tS])
    (refine tk 11 (some 27) (v := ?_) rfl ?_ ?_; rotate_left; · (intro w hSw; (try dsimp only at hSw); go_simp; (try with_reducible rfl)))
    (try simp only [Act.put, tA, tZ, tS])
    (refine tk 12 (some 28) (v := ?_) rfl ?_ ?_; rotate_left; · (intro w hSw; (try dsimp only at hSw); go_simp; (try with_reducible rfl)))
    (try simp only [Act.put, tA, tZ, tS])
    (refine tk 13 (some 29) (v := ?_) rfl ?_ ?_; rotate_left; · (intro w hSw; (try dsimp only at hSw); go_simp; (try with_reducible rfl)))
    (try simp only [Act.put, tA, tZ, tS])
    refine wpAnyH_ready (rs := [14]) (by kernel_rfl) (by simp) ?_; refine AllReadyH.cons (o := _) rfl (fun K hK => ?_) AllReadyH.nil
    go_simp
    skip
    refine hK.out _ _ (by (try dsimp only); exact Blk.alloc hHeld _) (fun hHeld => ?_)
    clear hK K
    (try simp only [Act.put, tA, tZ, tS])
    have x0 : Chg [] w1 (u1.alloc (.cells #[.slice none 0 0, .int .i64 0, .bool false, .bool false, .bool false, .bool false, .bool false] 108)) := (((Chg.refl [] w1).drew).trans y1 (by simp)).alloc _
    have hp0 := Blk.new u1 108 #[.slice none 0 0, .int .i64 0, .bool false, .bool false, .bool false, .bool false, .bool false]
    have hne : m ≠ u1.heap.size := by have h1 := hm1.lt; have h2 := x0.size; have h3 := y1.size; simp at h2 h3; omega
    have hlo : ∀ g ∈ (Value.slice A ats.length c).ownBlock.toList, w1.heap.size ≤ g ∧ g ≠ u1.heap.size := fun g hg => ⟨by simpa using l1 g hg, by have := OwnA.lt r1 g hg; omega⟩
    have r2 := OwnA.self r1 ((Chg.refl [] u1).alloc (.cells #[.slice none 0 0, .int .i64 0, .bool false, .bool false, .bool false, .bool false, .bool false] 108))
    have hpl : w1.heap.size ≤ u1.heap.size := by simpa using y1.size
    clear r1 l1 y1
    generalize hu2 : u1.alloc (.cells #[.slice none 0 0, .int .i64 0, .bool false, .bool false, .bool false, .bool false, .bool false] 108) = u2 at *
    generalize u1.heap.size = pb at *
    clear hu2
    obtain ⟨z0, z1, z2, z3, z4, z5, z6, g0, g1, g2, g3, g4, g5, g6⟩ := blk7 hp0
    refine wpAnyH_ready (rs := [15]) (by kernel_rfl) (by simp) ?_; refine AllReadyH.cons (o := _) rfl (fun K hK => ?_) AllReadyH.nil
    go_simp
    skip
    refine hK.out _ _ (by (try dsimp only); exact far7 hHeld hne) (fun hHeld => ?_)
    clear hK K
    (try simp only [Act.put, tA, tZ, tS])
    (refine tk 16 (some 8) (v := ?_) rfl ?_ ?_; rotate_left; · (intro w hSw; (try dsimp only at hSw); go_simp; (try with_reducible rfl)))
    (try simp only [Act.put, tA, tZ, tS])
    (refine tk 17 (some 9) (v := ?_) rfl ?_ ?_; rotate_left; · (intro w hSw; (try dsimp only at hSw); go_simp; (try with_reducible rfl)))
    (try simp only [Act.put, tA, tZ, tS])
    refine wpAnyH_done (by kernel_rfl) ?_ _
    refine NoPanic.normal ?_
    have hp3 := set7 (y0 := .slice A ats.length c) (y1 := .int .i64 pg) (y2 := .bool rw) (y3 := .bool ru) (y4 := .bool rx) (y5 := .bool lg) (y6 := .bool dy) hp0
    have x3 : Chg [] w1 _ := x0.trans (chg7 (y0 := .slice A ats.length c) (y1 := .int .i64 pg) (y2 := .bool rw) (y3 := .bool ru) (y4 := .bool rx) (y5 := .bool lg) (y6 := .bool dy) (g := pb) (Chg.refl [pb] u2) (by simp)) (by intro i hi hm; simp at hm; subst hm; omega)
    have r3 := OwnA.chg r2 (chg7 (y0 := .slice A ats.length c) (y1 := .int .i64 pg) (y2 := .bool rw) (y3 := .bool ru) (y4 := .bool rx) (y5 := .bool lg) (y6 := .bool dy) (g := pb) (Chg.refl [pb] u2) (by simp)) (fun g hg hm => by simp at hm; exact (hlo g hg).2 hm)
    have hpb := hp3.lt
    clear hHeld r2 hp0 x0 z0 z1 z2 z3 z4 z5 z6 g0 g1 g2 g3 g4 g5 g6
    generalize ((((((u2.setCell ⟨pb, 0, none⟩ (.slice A ats.length c)).setCell ⟨pb, 1, none⟩ (.int .i64 pg)).setCell ⟨pb, 2, none⟩ (.bool rw)).setCell ⟨pb, 3, none⟩ (.bool ru)).setCell ⟨pb, 4, none⟩ (.bool rx)).setCell ⟨pb, 5, none⟩ (.bool lg)).setCell ⟨pb, 6, none⟩ (.bool dy) = w3 at *
    have hlo := fun g hg => (hlo g hg).1
    clear hne hWk
    have k3 : Chg [] w w3 := k1.trans x3 (by simp)
    have H3 := H0.more (G := [pb]) k3 (by intro i hi; simp at hi; subst hi; exact ⟨Nat.le_trans k1.size hpl, hpb⟩)
    clear x3 hm1
    have hne1 : (how != 0) = true := by simpa [bne] using hne0
    go_wp2_with fail
    refine wp_region_cls (by kernel_rfl) (by kernel_rfl) ?_
    repeat (go_big_quiet_step (fail))
    refine wpQuiet_nil ?_
    rintro _ ⟨n5, rfl⟩
    have k5 := k3.trans n5.ok (by simp)
    have H5 := H3.new n5.ok
    have hp5 := n5.blk hp3
    go_wp2_with fail
    go_ret
    exact ⟨rfl, H5.less (fun i hi => by simp [hi]), Far.of_new k5⟩
  · go_simp
    skip
    refine hK.out _ _ (by (try dsimp only); exact Blk.alloc hHeld _) (fun hHeld => ?_)
    clear hK K
    (try simp only [Act.put, tA, tZ, tS])
    have x9 : Chg [] w1 (w1.drew.alloc (.cells #[.slice none 0 0, .int .i64 0, .bool false, .bool false, .bool false, .bool false, .bool false] 108)) := ((Chg.refl [] w1).drew).alloc _
    have hp9 : Blk (w1.drew.alloc (.cells #[.slice none 0 0, .int .i64 0, .bool false, .bool false, .bool false, .bool false, .bool false] 108)) w1.heap.size 108 #[.slice none 0 0, .int .i64 0, .bool false, .bool false, .bool false, .bool false, .bool false] := Blk.new w1.drew _ _
    refine wpAnyH_ready (rs := [9]) (by kernel_rfl) (by simp) ?_; refine AllReadyH.cons (o := _) rfl (fun K hK => ?_) AllReadyH.nil
    go_simp
    (go_at_call 59; refine (hWk _ x9).mono ?_; rintro e u1 ⟨A, c, rfl, r1, l1, y1⟩; simp only at *)
    refine hK.out _ _ (by (try dsimp only); exact hHeld.chg_ y1 (by simp)) (fun hHeld => ?_)
    clear hK K
    (try simp only [Act.put, tA, tZ, tS])
    (refine tk 10 (some 16) (v := ?_) rfl ?_ ?_; rotate_left; · (intro w hSw; (try dsimp only at hSw); go_simp; (try with_reducible rfl)))
    (try simp only [Act.put, tA, tZ, tS])
    (refine tk 11 (some 27) (v := ?_) rfl ?_ ?_; rotate_left; · (intro w hSw; (try dsimp only at hSw); go_simp; (try with_reducible rfl)))
    (try simp only [Act.put, tA, tZ, tS])
    (refine tk 12 (some 28) (v := ?_) rfl ?_ ?_; rotate_left; · (intro w hSw; (try dsimp only at hSw); go_simp; (try with_reducible rfl)))
    (try simp only [Act.put, tA, tZ, tS])
    (refine tk 13 (some 29) (v := ?_) rfl ?_ ?_; rotate_left; · (intro w hSw; (try dsimp only at hSw); go_simp; (try with_reducible rfl)))
    (try simp only [Act.put, tA, tZ, tS])
    have x0 : Chg [] w1 u1 := x9.trans y1 (by simp)
    have hp0 := hp9.chg_ y1 (by simp)
    obtain ⟨pb, hpe⟩ : ∃ pb, pb = w1.heap.size := ⟨_, rfl⟩
    have hne : m ≠ pb := by have h1 := hm1.lt; omega
    have hlo : ∀ g ∈ (Value.slice A ats.length c).ownBlock.toList, w1.heap.size ≤ g ∧ g ≠ pb := fun g hg => by have := l1 g hg; simp at this; omega
    have hpl : w1.heap.size ≤ pb := by omega
    rw [← hpe] at hp0 ⊢
    have r2 := r1
    clear r1 l1 y1 x9 hp9 hpe
    generalize hu2 : u1 = u2 at *
    clear hu2
    obtain ⟨z0, z1, z2, z3, z4, z5, z6, g0, g1, g2, g3, g4, g5, g6⟩ := blk7 hp0
    refine wpAnyH_ready (rs := [15]) (by kernel_rfl) (by simp) ?_; refine AllReadyH.cons (o := _) rfl (fun K hK => ?_) AllReadyH.nil
    go_simp
    skip
    refine hK.out _ _ (by (try dsimp only); exact far7 hHeld hne) (fun hHeld => ?_)
    clear hK K
    (try simp only [Act.put, tA, tZ, tS])
    (refine tk 16 (some 8) (v := ?_) rfl ?_ ?_; rotate_left; · (intro w hSw; (try dsimp only at hSw); go_simp; (try with_reducible rfl)))
    (try simp only [Act.put, tA, tZ, tS])
    (refine tk 17 (some 9) (v := ?_) rfl ?_ ?_; rotate_left; · (intro w hSw; (try dsimp only at hSw); go_simp; (try with_reducible rfl)))
    (try simp only [Act.put, tA, tZ, tS])
    refine wpAnyH_done (by kernel_rfl) ?_ _
    refine NoPanic.normal ?_
    have hp3 := set7 (y0 := .slice A ats.length c) (y1 := .int .i64 pg) (y2 := .bool rw) (y3 := .bool ru) (y4 := .bool rx) (y5 := .bool lg) (y6 := .bool dy) hp0
    have x3 : Chg [] w1 _ := x0.trans (chg7 (y0 := .slice A ats.length c) (y1 := .int .i64 pg) (y2 := .bool rw) (y3 := .bool ru) (y4 := .bool rx) (y5 := .bool lg) (y6 := .bool dy) (g := pb) (Chg.refl [pb] u2) (by simp)) (by intro i hi hm; simp at hm; subst hm; omega)
    have r3 := OwnA.chg r2 (chg7 (y0 := .slice A ats.length c) (y1 := .int .i64 pg) (y2 := .bool rw) (y3 := .bool ru) (y4 := .bool rx) (y5 := .bool lg) (y6 := .bool dy) (g := pb) (Chg.refl [pb] u2) (by simp)) (fun g hg hm => by simp at hm; exact (hlo g hg).2 hm)
    have hpb := hp3.lt
    clear hHeld r2 hp0 x0 z0 z1 z2 z3 z4 z5 z6 g0 g1 g2 g3 g4 g5 g6
    generalize ((((((u2.setCell ⟨pb, 0, none⟩ (.slice A ats.length c)).setCell ⟨pb, 1, none⟩ (.int .i64 pg)).setCell ⟨pb, 2, none⟩ (.bool rw)).setCell ⟨pb, 3, none⟩ (.bool ru)).setCell ⟨pb, 4, none⟩ (.bool rx)).setCell ⟨pb, 5, none⟩ (.bool lg)).setCell ⟨pb, 6, none⟩ (.bool dy) = w3 at *
    have hlo := fun g hg => (hlo g hg).1
    clear hne hWk
    have k3 : Chg [] w w3 := k1.trans x3 (by simp)
    have H3 := H0.more (G := [pb]) k3 (by intro i hi; simp at hi; subst hi; exact ⟨Nat.le_trans k1.size hpl, hpb⟩)
    clear x3 hm1
    have hne1 : (how != 0) = true := by simpa [bne] using hne0
    go_wp2_with fail
    refine wp_region_cls (by kernel_rfl) (by kernel_rfl) ?_
    repeat (go_big_quiet_step (fail))
    refine wpQuiet_nil ?_
    rintro _ ⟨n5, rfl⟩
    have k5 := k3.trans n5.ok (by simp)
    have H5 := H3.new n5.ok
    have hp5 := n5.blk hp3
    go_wp2_with fail
    go_ret
    exact ⟨rfl, H5.less (fun i hi => by simp [hi]), Far.of_new k5⟩

set_option maxRecDepth 100000 in
set_option maxHeartbeats 8000000 in
theorem rfind_bare (page : Int) (H : RModB w0 F w m t q S p L h b n s) (P : Pa) (hu : hasT s.T 0 page = false) (hr : walkP n s.W L s.r page 0 false = (P, 0, 0)) (hus : usedAts n s.W L P.ats = false) :
    Calls Tryz.prog 67 #[.pointer (some ⟨m, 0, none⟩), .int .i64 page] w fun e w' => e = .returned (.bool false) ∧ RModB w0 F w' m t q S p L h b n s ∧ Far F w w' := by
  have hP := RMKnown_b page H
  rw [hu] at hP
  clear hu
  generalize getT s.T 0 page = x at hP
  obtain ⟨xa, xp, xf, xw, xu, xx, xd⟩ := x
  simp only [Ht.v] at hP
  have H0 := H
  have hWk0 := fun w9 (k9 : Chg [] w w9) => (H.new k9).walk page 0 false P 0 0 hr
  have hlen := walk_len hr
  have hall : P.ats.length ≤ 9223372036854775807 := by omega
  have hgl := (done_of hr).2
  obtain ⟨ats, pg, ⟨rw, ru, rx⟩, lg, dy⟩ := P
  simp only [pathV] at *
  clear hr
  obtain ⟨sW, sr, sT⟩ := s
  simp only at *
  clear H
  go_enter Tryz.func67, Tryz.ntmps67
  go_wp2_with fail
  refine hP.mono ?_; rintro e u0 ⟨rfl, k0⟩
  have k1 : Chg [] w (u0.alloc (.cells #[.int .i64 xa, .int .i64 xp, .int .i64 xf, .bool xw, .bool xu, .bool xx, .bool xd] 62)) := k0.alloc _
  go_wp2_with fail
  generalize u0.alloc (.cells #[.int .i64 xa, .int .i64 xp, .int .i64 xf, .bool xw, .bool xu, .bool xx, .bool xd] 62) = w1 at *
  have hm1 := k1.blk H0.st (by simp)
  have hWk := hWk0 w1 k1
  clear hWk0 hP k0
  refine wp_region_noPanic ?_
  refine wp_region_held_drew (S := (fun w' => Blk w' m 95 #[.pointer (some ⟨q, 0, none⟩), .int .i64 sr, .pointer (some ⟨t, 0, none⟩)])) (by kernel_rfl) ?_ (fun hHeld => ?_)
  · exact hm1.drew
  (refine tk 0 (some 17) (v := ?_) rfl ?_ ?_; rotate_left; · (intro w hSw; (try dsimp only at hSw); obtain ⟨c0_, c1_, c2_⟩ := blk3 hSw; go_simp; (try with_reducible rfl)))
  (try simp only [Act.put, tA, tZ, tS])
  (refine tk 1 (some 18) (v := ?_) rfl ?_ ?_; rotate_left; · (intro w hSw; (try dsimp only at hSw); obtain ⟨c0_, c1_, c2_⟩ := blk3 hSw; go_simp; (try with_reducible rfl)))
  (try simp only [Act.put, tA, tZ, tS])
  (refine tk 2 (some 19) (v := ?_) rfl ?_ ?_; rotate_left; · (intro w hSw; (try dsimp only at hSw); obtain ⟨c0_, c1_, c2_⟩ := blk3 hSw; go_simp; (try with_reducible rfl)))
  (try simp only [Act.put, tA, tZ, tS])
  (refine tk 3 (some 20) (v := ?_) rfl ?_ ?_; rotate_left; · (intro w hSw; (try dsimp only at hSw); obtain ⟨c0_, c1_, c2_⟩ := blk3 hSw; go_simp; (try with_reducible rfl)))
  (try simp only [Act.put, tA, tZ, tS])
  (refine tk 4 (some 21) (v := ?_) rfl ?_ ?_; rotate_left; · (intro w hSw; (try dsimp only at hSw); obtain ⟨c0_, c1_, c2_⟩ := blk3 hSw; go_simp; (try with_reducible rfl)))
  (try simp only [Act.put, tA, tZ, tS])
  (refine tk 5 (some 22) (v := ?_) rfl ?_ ?_; rotate_left; · (intro w hSw; (try dsimp only at hSw); obtain ⟨c0_, c1_, c2_⟩ := blk3 hSw; go_simp; (try with_reducible rfl)))
  (try simp only [Act.put, tA, tZ, tS])
  (refine tk 6 (some 23) (v := ?_) rfl ?_ ?_; rotate_left; · (intro w hSw; (try dsimp only at hSw); obtain ⟨c0_, c1_, c2_⟩ := blk3 hSw; go_simp; (try with_reducible rfl)))
  (try simp only [Act.put, tA, tZ, tS])
  (refine tk 7 (some 24) (v := ?_) rfl ?_ ?_; rotate_left; · (intro w hSw; (try dsimp only at hSw); obtain ⟨c0_, c1_, c2_⟩ := blk3 hSw; go_simp; (try with_reducible rfl)))
  (try simp only [Act.put, tA, tZ, tS])
  (refine tk 8 (some 25) (v := ?_) rfl ?_ ?_; rotate_left; · (intro w hSw; (try dsimp only at hSw); obtain ⟨c0_, c1_, c2_⟩ := blk3 hSw; go_simp; (try with_reducible rfl)))
  (try simp only [Act.put, tA, tZ, tS])
  refine wpAnyH_ready (rs := [9, 14]) (by kernel_rfl) (by simp) ?_; refine AllReadyH.cons (o := _) rfl (fun K hK => ?_) (AllReadyH.cons (o := _) rfl (fun K hK => ?_) AllReadyH.nil)
  · go_simp
    (go_at_call 59; refine (hWk _ ((Chg.refl [] w1).drew)).mono ?_; rintro e u1 ⟨A, c, rfl, r1, l1, y1⟩; simp only at *)
    refine hK.out _ _ (by (try dsimp only); exact hHeld.chg_ y1 (by simp)) (fun hHeld => ?_)
    clear hK K
    (try simp only [Act.put, tA, tZ, tS])
    (refine tk 10 (some 16) (v := ?_) rfl ?_ ?_; rotate_left; · (intro w hSw; (try dsimp only at hSw); go_simp; (try with_reducible rfl)))
    (try simp only [Act.put, tA, tZ, tS])
    (refine tk 11 (some 27) (v := ?_) rfl ?_ ?_; rotate_left; · (intro w hSw; (try dsimp only at hSw); go_simp; (try with_reducible rfl)))
    (try simp only [Act.put, tA, tZ, tS])
    (refine tk 12 (some 28) (v := ?_) rfl ?_ ?_; rotate_left; · (intro w hSw; (try dsimp only at hSw); go_simp; (try with_reducible rfl)))
    (try simp only [Act.put, tA, tZ, tS])
    (refine tk 13 (some 29) (v := ?_) rfl ?_ ?_; rotate_left; · (intro w hSw; (try dsimp only at hSw); go_simp; (try with_reducible rfl)))
    (try simp only [Act.put, tA, tZ, tS])
    refine wpAnyH_ready (rs := [14]) (by kernel_rfl) (by simp) ?_; refine AllReadyH.cons (o := _) rfl (fun K hK => ?_) AllReadyH.nil
    go_simp
    skip
    refine hK.out _ _ (by (try dsimp only); exact Blk.alloc hHeld _) (fun hHeld => ?_)
    clear hK K
    (try simp only [Act.put, tA, tZ, tS])
    have x0 : Chg [] w1 (u1.alloc (.cells #[.slice none 0 0, .int .i64 0, .bool false, .bool false, .bool false, .bool false, .bool false] 108)) := (((Chg.refl [] w1).drew).trans y1 (by simp)).alloc _
    have hp0 := Blk.new u1 108 #[.slice none 0 0, .int .i64 0, .bool false, .bool false, .bool false, .bool false, .bool false]
    have hne : m ≠ u1.heap.size := by have h1 := hm1.lt; have h2 := x0.size; have h3 := y1.size; simp at h2 h3; omega
    have hlo : ∀ g ∈ (Value.slice A ats.length c).ownBlock.toList, w1.heap.size ≤ g ∧ g ≠ u1.heap.size := fun g hg => ⟨by simpa using l1 g hg, by have := OwnA.lt r1 g hg; omega⟩
    have r2 := OwnA.self r1 ((Chg.refl [] u1).alloc (.cells #[.slice none 0 0, .int .i64 0, .bool false, .bool false, .bool false, .bool false, .bool false] 108))
    have hpl : w1.heap.size ≤ u1.heap.size := by simpa using y1.size
    clear r1 l1 y1
    generalize hu2 : u1.alloc (.cells #[.slice none 0 0, .int .i64 0, .bool false, .bool false, .bool false, .bool false, .bool false] 108) = u2 at *
    generalize u1.heap.size = pb at *
    clear hu2
    obtain ⟨z0, z1, z2, z3, z4, z5, z6, g0, g1, g2, g3, g4, g5, g6⟩ := blk7 hp0
    refine wpAnyH_ready (rs := [15]) (by kernel_rfl) (by simp) ?_; refine AllReadyH.cons (o := _) rfl (fun K hK => ?_) AllReadyH.nil
    go_simp
    skip
    refine hK.out _ _ (by (try dsimp only); exact far7 hHeld hne) (fun hHeld => ?_)
    clear hK K
    (try simp only [Act.put, tA, tZ, tS])
    (refine tk 16 (some 8) (v := ?_) rfl ?_ ?_; rotate_left; · (intro w hSw; (try dsimp only at hSw); go_simp; (try with_reducible rfl)))
    (try simp only [Act.put, tA, tZ, tS])
    (refine tk 17 (some 9) (v := ?_) rfl ?_ ?_; rotate_left; · (intro w hSw; (try dsimp only at hSw); go_simp; (try with_reducible rfl)))
    (try simp only [Act.put, tA, tZ, tS])
    refine wpAnyH_done (by kernel_rfl) ?_ _
    refine NoPanic.normal ?_
    have hp3 := set7 (y0 := .slice A ats.length c) (y1 := .int .i64 pg) (y2 := .bool rw) (y3 := .bool ru) (y4 := .bool rx) (y5 := .bool lg) (y6 := .bool dy) hp0
    have x3 : Chg [] w1 _ := x0.trans (chg7 (y0 := .slice A ats.length c) (y1 := .int .i64 pg) (y2 := .bool rw) (y3 := .bool ru) (y4 := .bool rx) (y5 := .bool lg) (y6 := .bool dy) (g := pb) (Chg.refl [pb] u2) (by simp)) (by intro i hi hm; simp at hm; subst hm; omega)
    have r3 := OwnA.chg r2 (chg7 (y0 := .slice A ats.length c) (y1 := .int .i64 pg) (y2 := .bool rw) (y3 := .bool ru) (y4 := .bool rx) (y5 := .bool lg) (y6 := .bool dy) (g := pb) (Chg.refl [pb] u2) (by simp)) (fun g hg hm => by simp at hm; exact (hlo g hg).2 hm)
    have hpb := hp3.lt
    clear hHeld r2 hp0 x0 z0 z1 z2 z3 z4 z5 z6 g0 g1 g2 g3 g4 g5 g6
    generalize ((((((u2.setCell ⟨pb, 0, none⟩ (.slice A ats.length c)).setCell ⟨pb, 1, none⟩ (.int .i64 pg)).setCell ⟨pb, 2, none⟩ (.bool rw)).setCell ⟨pb, 3, none⟩ (.bool ru)).setCell ⟨pb, 4, none⟩ (.bool rx)).setCell ⟨pb, 5, none⟩ (.bool lg)).setCell ⟨pb, 6, none⟩ (.bool dy) = w3 at *
    have hlo := fun g hg => (hlo g hg).1
    clear hne hWk
    have k3 : Chg [] w w3 := k1.trans x3 (by simp)
    have H3 := H0.more (G := [pb]) k3 (by intro i hi; simp at hi; subst hi; exact ⟨Nat.le_trans k1.size hpl, hpb⟩)
    clear x3 hm1
    obtain ⟨c0, c1, c2⟩ := H3.c
    obtain ⟨p0_, p1_, p2_, p3_, p4_, p5_, p6_, _, _, _, _, _, _, _⟩ := blk7 hp3
    have K1 := fun nq : Cls w3 => nq.cell c0
    have J0 := fun nq : Cls w3 => nq.cell p0_
    have J1 := fun nq : Cls w3 => nq.cell p1_
    have J2 := fun nq : Cls w3 => nq.cell p2_
    have J3 := fun nq : Cls w3 => nq.cell p3_
    have J4 := fun nq : Cls w3 => nq.cell p4_
    have J5 := fun nq : Cls w3 => nq.cell p5_
    have J6 := fun nq : Cls w3 => nq.cell p6_
    have hsl := OwnA.sla r3
    have hMk := fun nq : Cls w3 => RMarked_at q S p L h b n sW A c ⟨ats, pg, ⟨rw, ru, rx⟩, lg, dy⟩ nq.val (H3.gu.self nq.ok) H3.ok.wd (hsl.self nq.ok) hall
    simp only [pathV, hus] at hMk
    clear hus
    go_wp2_with fail
    refine wp_region_cls (by kernel_rfl) (by kernel_rfl) ?_
    repeat (go_big_quiet_step (first | (go_at_call 101; with_reducible exact Calls.cls (hMk _))))
    refine wpQuiet_nil ?_
    rintro _ ⟨n5, rfl⟩
    have k5 := k3.trans n5.ok (by simp)
    have H5 := H3.new n5.ok
    have hp5 := n5.blk hp3
    go_wp2_with fail
    go_ret
    exact ⟨rfl, H5.less (fun i hi => by simp [hi]), Far.of_new k5⟩
  · go_simp
    skip
    refine hK.out _ _ (by (try dsimp only); exact Blk.alloc hHeld _) (fun hHeld => ?_)
    clear hK K
    (try simp only [Act.put, tA, tZ, tS])
    have x9 : Chg [] w1 (w1.drew.alloc (.cells #[.slice none 0 0, .int .i64 0, .bool false, .bool false, .bool false, .bool false, .bool false] 108)) := ((Chg.refl [] w1).drew).alloc _
    have hp9 : Blk (w1.drew.alloc (.cells #[.slice none 0 0, .int .i64 0, .bool false, .bool false, .bool false, .bool false, .bool false] 108)) w1.heap.size 108 #[.slice none 0 0, .int .i64 0, .bool false, .bool false, .bool false, .bool false, .bool false] := Blk.new w1.drew _ _
    refine wpAnyH_ready (rs := [9]) (by kernel_rfl) (by simp) ?_; refine AllReadyH.cons (o := _) rfl (fun K hK => ?_) AllReadyH.nil
    go_simp
    (go_at_call 59; refine (hWk _ x9).mono ?_; rintro e u1 ⟨A, c, rfl, r1, l1, y1⟩; simp only at *)
    refine hK.out _ _ (by (try dsimp only); exact hHeld.chg_ y1 (by simp)) (fun hHeld => ?_)
    clear hK K
    (try simp only [Act.put, tA, tZ, tS])
    (refine tk 10 (some 16) (v := ?_) rfl ?_ ?_; rotate_left; · (intro w hSw; (try dsimp only at hSw); go_simp; (try with_reducible rfl)))
    (try simp only [Act.put, tA, tZ, tS])
    (refine tk 11 (some 27) (v := ?_) rfl ?_ ?_; rotate_left; · (intro w hSw; (try dsimp only at hSw); go_simp; (try with_reducible rfl)))
    (try simp only [Act.put, tA, tZ, tS])
    (refine tk 12 (some 28) (v := ?_) rfl ?_ ?_; rotate_left; · (intro w hSw; (try dsimp only at hSw); go_simp; (try with_reducible rfl)))
    (try simp only [Act.put, tA, tZ, tS])
    (refine tk 13 (some 29) (v := ?_) rfl ?_ ?_; rotate_left; · (intro w hSw; (try dsimp only at hSw); go_simp; (try with_reducible rfl)))
    (try simp only [Act.put, tA, tZ, tS])
    have x0 : Chg [] w1 u1 := x9.trans y1 (by simp)
    have hp0 := hp9.chg_ y1 (by simp)
    obtain ⟨pb, hpe⟩ : ∃ pb, pb = w1.heap.size := ⟨_, rfl⟩
    have hne : m ≠ pb := by have h1 := hm1.lt; omega
    have hlo : ∀ g ∈ (Value.slice A ats.length c).ownBlock.toList, w1.heap.size ≤ g ∧ g ≠ pb := fun g hg => by have := l1 g hg; simp at this; omega
    have hpl : w1.heap.size ≤ pb := by omega
    rw [← hpe] at hp0 ⊢
    have r2 := r1
    clear r1 l1 y1 x9 hp9 hpe
    generalize hu2 : u1 = u2 at *
    clear hu2
    obtain ⟨z0, z1, z2, z3, z4, z5, z6, g0, g1, g2, g3, g4, g5, g6⟩ := blk7 hp0
    refine wpAnyH_ready (rs := [15]) (by kernel_rfl) (by simp) ?_; refine AllReadyH.cons (o := _) rfl (fun K hK => ?_) AllReadyH.nil
    go_simp
    skip
    refine hK.out _ _ (by (try dsimp only); exact far7 hHeld hne) (fun hHeld => ?_)
    clear hK K
    (try simp only [Act.put, tA, tZ, tS])
    (refine tk 16 (some 8) (v := ?_) rfl ?_ ?_; rotate_left; · (intro w hSw; (try dsimp only at hSw); go_simp; (try with_reducible rfl)))
    (try simp only [Act.put, tA, tZ, tS])
    (refine tk 17 (some 9) (v := ?_) rfl ?_ ?_; rotate_left; · (intro w hSw; (try dsimp only at hSw); go_simp; (try with_reducible rfl)))
    (try simp only [Act.put, tA, tZ, tS])
    refine wpAnyH_done (by kernel_rfl) ?_ _
    refine NoPanic.normal ?_
    have hp3 := set7 (y0 := .slice A ats.length c) (y1 := .int .i64 pg) (y2 := .bool rw) (y3 := .bool ru) (y4 := .bool rx) (y5 := .bool lg) (y6 := .bool dy) hp0
    have x3 : Chg [] w1 _ := x0.trans (chg7 (y0 := .slice A ats.length c) (y1 := .int .i64 pg) (y2 := .bool rw) (y3 := .bool ru) (y4 := .bool rx) (y5 := .bool lg) (y6 := .bool dy) (g := pb) (Chg.refl [pb] u2) (by simp)) (by intro i hi hm; simp at hm; subst hm; omega)
    have r3 := OwnA.chg r2 (chg7 (y0 := .slice A ats.length c) (y1 := .int .i64 pg) (y2 := .bool rw) (y3 := .bool ru) (y4 := .bool rx) (y5 := .bool lg) (y6 := .bool dy) (g := pb) (Chg.refl [pb] u2) (by simp)) (fun g hg hm => by simp at hm; exact (hlo g hg).2 hm)
    have hpb := hp3.lt
    clear hHeld r2 hp0 x0 z0 z1 z2 z3 z4 z5 z6 g0 g1 g2 g3 g4 g5 g6
    generalize ((((((u2.setCell ⟨pb, 0, none⟩ (.slice A ats.length c)).setCell ⟨pb, 1, none⟩ (.int .i64 pg)).setCell ⟨pb, 2, none⟩ (.bool rw)).setCell ⟨pb, 3, none⟩ (.bool ru)).setCell ⟨pb, 4, none⟩ (.bool rx)).setCell ⟨pb, 5, none⟩ (.bool lg)).setCell ⟨pb, 6, none⟩ (.bool dy) = w3 at *
    have hlo := fun g hg => (hlo g hg).1
    clear hne hWk
    have k3 : Chg [] w w3 := k1.trans x3 (by simp)
    have H3 := H0.more (G := [pb]) k3 (by intro i hi; simp at hi; subst hi; exact ⟨Nat.le_trans k1.size hpl, hpb⟩)
    clear x3 hm1
    obtain ⟨c0, c1, c2⟩ := H3.c
    obtain ⟨p0_, p1_, p2_, p3_, p4_, p5_, p6_, _, _, _, _, _, _, _⟩ := blk7 hp3
    have K1 := fun nq : Cls w3 => nq.cell c0
    have J0 := fun nq : Cls w3 => nq.cell p0_
    have J1 := fun nq : Cls w3 => nq.cell p1_
    have J2 := fun nq : Cls w3 => nq.cell p2_
    have J3 := fun nq : Cls w3 => nq.cell p3_
    have J4 := fun nq : Cls w3 => nq.cell p4_
    have J5 := fun nq : Cls w3 => nq.cell p5_
    have J6 := fun nq : Cls w3 => nq.cell p6_
    have hsl := OwnA.sla r3
    have hMk := fun nq : Cls w3 => RMarked_at q S p L h b n sW A c ⟨ats, pg, ⟨rw, ru, rx⟩, lg, dy⟩ nq.val (H3.gu.self nq.ok) H3.ok.wd (hsl.self nq.ok) hall
    simp only [pathV, hus] at hMk
    clear hus
    go_wp2_with fail
    refine wp_region_cls (by kernel_rfl) (by kernel_rfl) ?_
    repeat (go_big_quiet_step (first | (go_at_call 101; with_reducible exact Calls.cls (hMk _))))
    refine wpQuiet_nil ?_
    rintro _ ⟨n5, rfl⟩
    have k5 := k3.trans n5.ok (by simp)
    have H5 := H3.new n5.ok
    have hp5 := n5.blk hp3
    go_wp2_with fail
    go_ret
    exact ⟨rfl, H5.less (fun i hi => by simp [hi]), Far.of_new k5⟩

set_option maxRecDepth 100000 in
set_option maxHeartbeats 8000000 in
theorem rfind_done (page : Int) (H : RModB w0 F w m t q S p L h b n s) (P : Pa) (hu : hasT s.T 0 page = false) (hr : walkP n s.W L s.r page 0 false = (P, 0, 0)) (hus : usedAts n s.W L P.ats = true) :
    Calls Tryz.prog 67 #[.pointer (some ⟨m, 0, none⟩), .int .i64 page] w fun e w' => e = .returned (.bool true) ∧ RModB w0 F w' m t q S p L h b n ⟨s.W, s.r, putT 512 s.T (hitP page P false)⟩ ∧ Far F w w' := by
  have hP := RMKnown_b page H
  rw [hu] at hP
  clear hu
  generalize getT s.T 0 page = x at hP
  obtain ⟨xa, xp, xf, xw, xu, xx, xd⟩ := x
  simp only [Ht.v] at hP
  have H0 := H
  have hWk0 := fun w9 (k9 : Chg [] w w9) => (H.new k9).walk page 0 false P 0 0 hr
  have hlen := walk_len hr
  have hall : P.ats.length ≤ 9223372036854775807 := by omega
  have hgl := (done_of hr).2
  obtain ⟨ats, pg, ⟨rw, ru, rx⟩, lg, dy⟩ := P
  simp only [pathV] at *
  clear hr
  have HE5 := Lib.hid (show hitP page ⟨ats, pg, ⟨rw, ru, rx⟩, lg, dy⟩ false = ⟨0, page, pg, rw, ru, rx, dy⟩ from by simp [hitP])
  rw [HE5.out]
  generalize hT4 : putT 512 s.T ⟨0, page, pg, rw, ru, rx, dy⟩ = T4 at *
  have HT4 := Lib.hid hT4
  clear hT4
  obtain ⟨sW, sr, sT⟩ := s
  simp only at *
  clear H
  go_enter Tryz.func67, Tryz.ntmps67
  go_wp2_with fail
  refine hP.mono ?_; rintro e u0 ⟨rfl, k0⟩
  have k1 : Chg [] w (u0.alloc (.cells #[.int .i64 xa, .int .i64 xp, .int .i64 xf, .bool xw, .bool xu, .bool xx, .bool xd] 62)) := k0.alloc _
  go_wp2_with fail
  generalize u0.alloc (.cells #[.int .i64 xa, .int .i64 xp, .int .i64 xf, .bool xw, .bool xu, .bool xx, .bool xd] 62) = w1 at *
  have hm1 := k1.blk H0.st (by simp)
  have hWk := hWk0 w1 k1
  clear hWk0 hP k0
  refine wp_region_noPanic ?_
  refine wp_region_held_drew (S := (fun w' => Blk w' m 95 #[.pointer (some ⟨q, 0, none⟩), .int .i64 sr, .pointer (some ⟨t, 0, none⟩)])) (by kernel_rfl) ?_ (fun hHeld => ?_)
  · exact hm1.drew
  (refine tk 0 (some 17) (v := ?_) rfl ?_ ?_; rotate_left; · (intro w hSw; (try dsimp only at hSw); obtain ⟨c0_, c1_, c2_⟩ := blk3 hSw; go_simp; (try with_reducible rfl)))
  (try simp only [Act.put, tA, tZ, tS])
  (refine tk 1 (some 18) (v := ?_) rfl ?_ ?_; rotate_left; · (intro w hSw; (try dsimp only at hSw); obtain ⟨c0_, c1_, c2_⟩ := blk3 hSw; go_simp; (try with_reducible rfl)))
  (try simp only [Act.put, tA, tZ, tS])
  (refine tk 2 (some 19) (v := ?_) rfl ?_ ?_; rotate_left; · (intro w hSw; (try dsimp only at hSw); obtain ⟨c0_, c1_, c2_⟩ := blk3 hSw; go_simp; (try with_reducible rfl)))
  (try simp only [Act.put, tA, tZ, tS])
  (refine tk 3 (some 20) (v := ?_) rfl ?_ ?_; rotate_left; · (intro w hSw; (try dsimp only at hSw); obtain ⟨c0_, c1_, c2_⟩ := blk3 hSw; go_simp; (try with_reducible rfl)))
  (try simp only [Act.put, tA, tZ, tS])
  (refine tk 4 (some 21) (v := ?_) rfl ?_ ?_; rotate_left; · (intro w hSw; (try dsimp only at hSw); obtain ⟨c0_, c1_, c2_⟩ := blk3 hSw; go_simp; (try with_reducible rfl)))
  (try simp only [Act.put, tA, tZ, tS])
  (refine tk 5 (some 22) (v := ?_) rfl ?_ ?_; rotate_left; · (intro w hSw; (try dsimp only at hSw); obtain ⟨c0_, c1_, c2_⟩ := blk3 hSw; go_simp; (try with_reducible rfl)))
  (try simp only [Act.put, tA, tZ, tS])
  (refine tk 6 (some 23) (v := ?_) rfl ?_ ?_; rotate_left; · (intro w hSw; (try dsimp only at hSw); obtain ⟨c0_, c1_, c2_⟩ := blk3 hSw; go_simp; (try with_reducible rfl)))
  (try simp only [Act.put, tA, tZ, tS])
  (refine tk 7 (some 24) (v := ?_) rfl ?_ ?_; rotate_left; · (intro w hSw; (try dsimp only at hSw); obtain ⟨c0_, c1_, c2_⟩ := blk3 hSw; go_simp; (try with_reducible rfl)))
  (try simp only [Act.put, tA, tZ, tS])
  (refine tk 8 (some 25) (v := ?_) rfl ?_ ?_; rotate_left; · (intro w hSw; (try dsimp only at hSw); obtain ⟨c0_, c1_, c2_⟩ := blk3 hSw; go_simp; (try with_reducible rfl)))
  (try simp only [Act.put, tA, tZ, tS])
  refine wpAnyH_ready (rs := [9, 14]) (by kernel_rfl) (by simp) ?_; refine AllReadyH.cons (o := _) rfl (fun K hK => ?_) (AllReadyH.cons (o := _) rfl (fun K hK => ?_) AllReadyH.nil)
  · go_simp
    (go_at_call 59; refine (hWk _ ((Chg.refl [] w1).drew)).mono ?_; rintro e u1 ⟨A, c, rfl, r1, l1, y1⟩; simp only at *)
    refine hK.out _ _ (by (try dsimp only); exact hHeld.chg_ y1 (by simp)) (fun hHeld => ?_)
    clear hK K
    (try simp only [Act.put, tA, tZ, tS])
    (refine tk 10 (some 16) (v := ?_) rfl ?_ ?_; rotate_left; · (intro w hSw; (try dsimp only at hSw); go_simp; (try with_reducible rfl)))
    (try simp only [Act.put, tA, tZ, tS])
    (refine tk 11 (some 27) (v := ?_) rfl ?_ ?_; rotate_left; · (intro w hSw; (try dsimp only at hSw); go_simp; (try with_reducible rfl)))
    (try simp only [Act.put, tA, tZ, tS])
    (refine tk 12 (some 28) (v := ?_) rfl ?_ ?_; rotate_left; · (intro w hSw; (try dsimp only at hSw); go_simp; (try with_reducible rfl)))
    (try simp only [Act.put, tA, tZ, tS])
    (refine tk 13 (some 29) (v := ?_) rfl ?_ ?_; rotate_left; · (intro w hSw; (try dsimp only at hSw); go_simp; (try with_reducible rfl)))
    (try simp only [Act.put, tA, tZ, tS])
    refine wpAnyH_ready (rs := [14]) (by kernel_rfl) (by simp) ?_; refine AllReadyH.cons (o := _) rfl (fun K hK => ?_) AllReadyH.nil
    go_simp
    skip
    refine hK.out _ _ (by (try dsimp only); exact Blk.alloc hHeld _) (fun hHeld => ?_)
    clear hK K
    (try simp only [Act.put, tA, tZ, tS])
    have x0 : Chg [] w1 (u1.alloc (.cells #[.slice none 0 0, .int .i64 0, .bool false, .bool false, .bool false, .bool false, .bool false] 108)) := (((Chg.refl [] w1).drew).trans y1 (by simp)).alloc _
    have hp0 := Blk.new u1 108 #[.slice none 0 0, .int .i64 0, .bool false, .bool false, .bool false, .bool false, .bool false]
    have hne : m ≠ u1.heap.size := by have h1 := hm1.lt; have h2 := x0.size; have h3 := y1.size; simp at h2 h3; omega
    have hlo : ∀ g ∈ (Value.slice A ats.length c).ownBlock.toList, w1.heap.size ≤ g ∧ g ≠ u1.heap.size := fun g hg => ⟨by simpa using l1 g hg, by have := OwnA.lt r1 g hg; omega⟩
    have r2 := OwnA.self r1 ((Chg.refl [] u1).alloc (.cells #[.slice none 0 0, .int .i64 0, .bool false, .bool false, .bool false, .bool false, .bool false] 108))
    have hpl : w1.heap.size ≤ u1.heap.size := by simpa using y1.size
    clear r1 l1 y1
    generalize hu2 : u1.alloc (.cells #[.slice none 0 0, .int .i64 0, .bool false, .bool false, .bool false, .bool false, .bool false] 108) = u2 at *
    generalize u1.heap.size = pb at *
    clear hu2
    obtain ⟨z0, z1, z2, z3, z4, z5, z6, g0, g1, g2, g3, g4, g5, g6⟩ := blk7 hp0
    refine wpAnyH_ready (rs := [15]) (by kernel_rfl) (by simp) ?_; refine AllReadyH.cons (o := _) rfl (fun K hK => ?_) AllReadyH.nil
    go_simp
    skip
    refine hK.out _ _ (by (try dsimp only); exact far7 hHeld hne) (fun hHeld => ?_)
    clear hK K
    (try simp only [Act.put, tA, tZ, tS])
    (refine tk 16 (some 8) (v := ?_) rfl ?_ ?_; rotate_left; · (intro w hSw; (try dsimp only at hSw); go_simp; (try with_reducible rfl)))
    (try simp only [Act.put, tA, tZ, tS])
    (refine tk 17 (some 9) (v := ?_) rfl ?_ ?_; rotate_left; · (intro w hSw; (try dsimp only at hSw); go_simp; (try with_reducible rfl)))
    (try simp only [Act.put, tA, tZ, tS])
    refine wpAnyH_done (by kernel_rfl) ?_ _
    refine NoPanic.normal ?_
    have hp3 := set7 (y0 := .slice A ats.length c) (y1 := .int .i64 pg) (y2 := .bool rw) (y3 := .bool ru) (y4 := .bool rx) (y5 := .bool lg) (y6 := .bool dy) hp0
    have x3 : Chg [] w1 _ := x0.trans (chg7 (y0 := .slice A ats.length c) (y1 := .int .i64 pg) (y2 := .bool rw) (y3 := .bool ru) (y4 := .bool rx) (y5 := .bool lg) (y6 := .bool dy) (g := pb) (Chg.refl [pb] u2) (by simp)) (by intro i hi hm; simp at hm; subst hm; omega)
    have r3 := OwnA.chg r2 (chg7 (y0 := .slice A ats.length c) (y1 := .int .i64 pg) (y2 := .bool rw) (y3 := .bool ru) (y4 := .bool rx) (y5 := .bool lg) (y6 := .bool dy) (g := pb) (Chg.refl [pb] u2) (by simp)) (fun g hg hm => by simp at hm; exact (hlo g hg).2 hm)
    have hpb := hp3.lt
    clear hHeld r2 hp0 x0 z0 z1 z2 z3 z4 z5 z6 g0 g1 g2 g3 g4 g5 g6
    generalize ((((((u2.setCell ⟨pb, 0, none⟩ (.slice A ats.length c)).setCell ⟨pb, 1, none⟩ (.int .i64 pg)).setCell ⟨pb, 2, none⟩ (.bool rw)).setCell ⟨pb, 3, none⟩ (.bool ru)).setCell ⟨pb, 4, none⟩ (.bool rx)).setCell ⟨pb, 5, none⟩ (.bool lg)).setCell ⟨pb, 6, none⟩ (.bool dy) = w3 at *
    have hlo := fun g hg => (hlo g hg).1
    clear hne hWk
    have k3 : Chg [] w w3 := k1.trans x3 (by simp)
    have H3 := H0.more (G := [pb]) k3 (by intro i hi; simp at hi; subst hi; exact ⟨Nat.le_trans k1.size hpl, hpb⟩)
    clear x3 hm1
    obtain ⟨c0, c1, c2⟩ := H3.c
    obtain ⟨p0_, p1_, p2_, p3_, p4_, p5_, p6_, _, _, _, _, _, _, _⟩ := blk7 hp3
    have K1 := fun nq : Cls w3 => nq.cell c0
    have J0 := fun nq : Cls w3 => nq.cell p0_
    have J1 := fun nq : Cls w3 => nq.cell p1_
    have J2 := fun nq : Cls w3 => nq.cell p2_
    have J3 := fun nq : Cls w3 => nq.cell p3_
    have J4 := fun nq : Cls w3 => nq.cell p4_
    have J5 := fun nq : Cls w3 => nq.cell p5_
    have J6 := fun nq : Cls w3 => nq.cell p6_
    have hsl := OwnA.sla r3
    have hMk := fun nq : Cls w3 => RMarked_at q S p L h b n sW A c ⟨ats, pg, ⟨rw, ru, rx⟩, lg, dy⟩ nq.val (H3.gu.self nq.ok) H3.ok.wd (hsl.self nq.ok) hall
    simp only [pathV, hus] at hMk
    clear hus
    go_wp2_with fail
    refine wp_region_cls (by kernel_rfl) (by kernel_rfl) ?_
    repeat (go_big_quiet_step (first | (go_at_call 101; with_reducible exact Calls.cls (hMk _))))
    refine wpQuiet_nil ?_
    rintro _ ⟨n5, rfl⟩
    have k5 := k3.trans n5.ok (by simp)
    have H5 := H3.new n5.ok
    have hp5 := n5.blk hp3
    generalize n5.val = w5 at *
    clear c0 c1 c2 p0_ p1_ p2_ p3_ p4_ p5_ p6_ K1 J0 J1 J2 J3 J4 J5 J6 hMk
    have hle := fun w9 (k9 : Chg [] w5 w9) => RTPut_b ⟨0, page, pg, rw, ru, rx, dy⟩ (H5.new k9).tb
    simp only [Ht.v, HT4.out] at hle
    go_wp2_with fail
    refine wp_region_noPanic ?_
    refine wp_region_held_drew (S := (fun w' => Blk w' m 95 #[.pointer (some ⟨q, 0, none⟩), .int .i64 sr, .pointer (some ⟨t, 0, none⟩)] ∧ Blk w' pb 108 #[.slice A ats.length c, .int .i64 pg, .bool rw, .bool ru, .bool rx, .bool lg, .bool dy])) (by kernel_rfl) ?_ (fun hHeld => ?_)
    · exact ⟨H5.st.drew, hp5.drew⟩
    (refine tk 0 (some 44) (v := ?_) rfl ?_ ?_; rotate_left; · (intro w hSw; (try dsimp only at hSw); obtain ⟨hSm, hSp⟩ := hSw; obtain ⟨c0_, c1_, c2_⟩ := blk3 hSm; obtain ⟨z0_, z1_, z2_, z3_, z4_, z5_, z6_, _, _, _, _, _, _, _⟩ := blk7 hSp; go_simp; (try with_reducible rfl)))
    (try simp only [Act.put, tA, tZ, tS])
    (refine tk 1 (some 45) (v := ?_) rfl ?_ ?_; rotate_left; · (intro w hSw; (try dsimp only at hSw); obtain ⟨hSm, hSp⟩ := hSw; obtain ⟨c0_, c1_, c2_⟩ := blk3 hSm; obtain ⟨z0_, z1_, z2_, z3_, z4_, z5_, z6_, _, _, _, _, _, _, _⟩ := blk7 hSp; go_simp; (try with_reducible rfl)))
    (try simp only [Act.put, tA, tZ, tS])
    (refine tk 2 (some 46) (v := ?_) rfl ?_ ?_; rotate_left; · (intro w hSw; (try dsimp only at hSw); obtain ⟨hSm, hSp⟩ := hSw; obtain ⟨c0_, c1_, c2_⟩ := blk3 hSm; obtain ⟨z0_, z1_, z2_, z3_, z4_, z5_, z6_, _, _, _, _, _, _, _⟩ := blk7 hSp; go_simp; (try with_reducible rfl)))
    (try simp only [Act.put, tA, tZ, tS])
    (refine tk 3 (some 47) (v := ?_) rfl ?_ ?_; rotate_left; · (intro w hSw; (try dsimp only at hSw); obtain ⟨hSm, hSp⟩ := hSw; obtain ⟨c0_, c1_, c2_⟩ := blk3 hSm; obtain ⟨z0_, z1_, z2_, z3_, z4_, z5_, z6_, _, _, _, _, _, _, _⟩ := blk7 hSp; go_simp; (try with_reducible rfl)))
    (try simp only [Act.put, tA, tZ, tS])
    (refine tk 4 (some 48) (v := ?_) rfl ?_ ?_; rotate_left; · (intro w hSw; (try dsimp only at hSw); obtain ⟨hSm, hSp⟩ := hSw; obtain ⟨c0_, c1_, c2_⟩ := blk3 hSm; obtain ⟨z0_, z1_, z2_, z3_, z4_, z5_, z6_, _, _, _, _, _, _, _⟩ := blk7 hSp; go_simp; (try with_reducible rfl)))
    (try simp only [Act.put, tA, tZ, tS])
    (refine tk 5 (some 49) (v := ?_) rfl ?_ ?_; rotate_left; · (intro w hSw; (try dsimp only at hSw); obtain ⟨hSm, hSp⟩ := hSw; obtain ⟨c0_, c1_, c2_⟩ := blk3 hSm; obtain ⟨z0_, z1_, z2_, z3_, z4_, z5_, z6_, _, _, _, _, _, _, _⟩ := blk7 hSp; go_simp; (try with_reducible rfl)))
    (try simp only [Act.put, tA, tZ, tS])
    (refine tk 6 (some 50) (v := ?_) rfl ?_ ?_; rotate_left; · (intro w hSw; (try dsimp only at hSw); obtain ⟨hSm, hSp⟩ := hSw; obtain ⟨c0_, c1_, c2_⟩ := blk3 hSm; obtain ⟨z0_, z1_, z2_, z3_, z4_, z5_, z6_, _, _, _, _, _, _, _⟩ := blk7 hSp; go_simp; (try with_reducible rfl)))
    (try simp only [Act.put, tA, tZ, tS])
    (refine tk 7 (some 51) (v := ?_) rfl ?_ ?_; rotate_left; · (intro w hSw; (try dsimp only at hSw); obtain ⟨hSm, hSp⟩ := hSw; obtain ⟨c0_, c1_, c2_⟩ := blk3 hSm; obtain ⟨z0_, z1_, z2_, z3_, z4_, z5_, z6_, _, _, _, _, _, _, _⟩ := blk7 hSp; go_simp; (try with_reducible rfl)))
    (try simp only [Act.put, tA, tZ, tS])
    (refine tk 8 (some 52) (v := ?_) rfl ?_ ?_; rotate_left; · (intro w hSw; (try dsimp only at hSw); obtain ⟨hSm, hSp⟩ := hSw; obtain ⟨c0_, c1_, c2_⟩ := blk3 hSm; obtain ⟨z0_, z1_, z2_, z3_, z4_, z5_, z6_, _, _, _, _, _, _, _⟩ := blk7 hSp; go_simp; (try with_reducible rfl)))
    (try simp only [Act.put, tA, tZ, tS])
    (refine tk 9 (some 53) (v := ?_) rfl ?_ ?_; rotate_left; · (intro w hSw; (try dsimp only at hSw); obtain ⟨hSm, hSp⟩ := hSw; obtain ⟨c0_, c1_, c2_⟩ := blk3 hSm; obtain ⟨z0_, z1_, z2_, z3_, z4_, z5_, z6_, _, _, _, _, _, _, _⟩ := blk7 hSp; go_simp; (try with_reducible rfl)))
    (try simp only [Act.put, tA, tZ, tS])
    (refine tk 10 (some 54) (v := ?_) rfl ?_ ?_; rotate_left; · (intro w hSw; (try dsimp only at hSw); obtain ⟨hSm, hSp⟩ := hSw; obtain ⟨c0_, c1_, c2_⟩ := blk3 hSm; obtain ⟨z0_, z1_, z2_, z3_, z4_, z5_, z6_, _, _, _, _, _, _, _⟩ := blk7 hSp; go_simp; (try with_reducible rfl)))
    (try simp only [Act.put, tA, tZ, tS])
    (refine tk 11 (some 55) (v := ?_) rfl ?_ ?_; rotate_left; · (intro w hSw; (try dsimp only at hSw); obtain ⟨hSm, hSp⟩ := hSw; obtain ⟨c0_, c1_, c2_⟩ := blk3 hSm; obtain ⟨z0_, z1_, z2_, z3_, z4_, z5_, z6_, _, _, _, _, _, _, _⟩ := blk7 hSp; go_simp; (try with_reducible rfl)))
    (try simp only [Act.put, tA, tZ, tS])
    refine wpAnyH_ready (rs := [12]) (by kernel_rfl) (by simp) ?_; refine AllReadyH.cons (o := _) rfl (fun K hK => ?_) AllReadyH.nil
    go_simp
    (go_at_call 61; refine (hle _ ((Chg.refl [] w5).drew)).mono ?_; rintro e w6 ⟨rfl, h6, f6⟩)
    refine hK.out _ _ (by (try dsimp only); exact ⟨f6.blk hHeld.1 (by simp [mB]), f6.blk hHeld.2 (by simp)⟩) (fun hHeld => ?_)
    clear hK K
    (try simp only [Act.put, tA, tZ, tS])
    refine wpAnyH_done (by kernel_rfl) ?_ _
    refine NoPanic.normal ?_
    have H6 := (H5.new ((Chg.refl [] w5).drew)).setT h6 f6 (H5.ok.put (x := ⟨0, page, pg, rw, ru, rx, dy⟩) ⟨rfl, path_g0 hgl.1, hgl.2.2⟩ |> fun hh => HT4.out ▸ hh)
    go_wp2_with fail
    go_ret
    exact ⟨rfl, H6.less (fun i hi => by simp [hi]), (Far.of_new (k5.trans ((Chg.refl [] w5).drew) (by simp))).trans (f6.less (fun i hi => by simp [hi]))⟩
  · go_simp
    skip
    refine hK.out _ _ (by (try dsimp only); exact Blk.alloc hHeld _) (fun hHeld => ?_)
    clear hK K
    (try simp only [Act.put, tA, tZ, tS])
    have x9 : Chg [] w1 (w1.drew.alloc (.cells #[.slice none 0 0, .int .i64 0, .bool false, .bool false, .bool false, .bool false, .bool false] 108)) := ((Chg.refl [] w1).drew).alloc _
    have hp9 : Blk (w1.drew.alloc (.cells #[.slice none 0 0, .int .i64 0, .bool false, .bool false, .bool false, .bool false, .bool false] 108)) w1.heap.size 108 #[.slice none 0 0, .int .i64 0, .bool false, .bool false, .bool false, .bool false, .bool false] := Blk.new w1.drew _ _
    refine wpAnyH_ready (rs := [9]) (by kernel_rfl) (by simp) ?_; refine AllReadyH.cons (o := _) rfl (fun K hK => ?_) AllReadyH.nil
    go_simp
    (go_at_call 59; refine (hWk _ x9).mono ?_; rintro e u1 ⟨A, c, rfl, r1, l1, y1⟩; simp only at *)
    refine hK.out _ _ (by (try dsimp only); exact hHeld.chg_ y1 (by simp)) (fun hHeld => ?_)
    clear hK K
    (try simp only [Act.put, tA, tZ, tS])
    (refine tk 10 (some 16) (v := ?_) rfl ?_ ?_; rotate_left; · (intro w hSw; (try dsimp only at hSw); go_simp; (try with_reducible rfl)))
    (try simp only [Act.put, tA, tZ, tS])
    (refine tk 11 (some 27) (v := ?_) rfl ?_ ?_; rotate_left; · (intro w hSw; (try dsimp only at hSw); go_simp; (try with_reducible rfl)))
    (try simp only [Act.put, tA, tZ, tS])
    (refine tk 12 (some 28) (v := ?_) rfl ?_ ?_; rotate_left; · (intro w hSw; (try dsimp only at hSw); go_simp; (try with_reducible rfl)))
    (try simp only [Act.put, tA, tZ, tS])
    (refine tk 13 (some 29) (v := ?_) rfl ?_ ?_; rotate_left; · (intro w hSw; (try dsimp only at hSw); go_simp; (try with_reducible rfl)))
    (try simp only [Act.put, tA, tZ, tS])
    have x0 : Chg [] w1 u1 := x9.trans y1 (by simp)
    have hp0 := hp9.chg_ y1 (by simp)
    obtain ⟨pb, hpe⟩ : ∃ pb, pb = w1.heap.size := ⟨_, rfl⟩
    have hne : m ≠ pb := by have h1 := hm1.lt; omega
    have hlo : ∀ g ∈ (Value.slice A ats.length c).ownBlock.toList, w1.heap.size ≤ g ∧ g ≠ pb := fun g hg => by have := l1 g hg; simp at this; omega
    have hpl : w1.heap.size ≤ pb := by omega
    rw [← hpe] at hp0 ⊢
    have r2 := r1
    clear r1 l1 y1 x9 hp9 hpe
    generalize hu2 : u1 = u2 at *
    clear hu2
    obtain ⟨z0, z1, z2, z3, z4, z5, z6, g0, g1, g2, g3, g4, g5, g6⟩ := blk7 hp0
    refine wpAnyH_ready (rs := [15]) (by kernel_rfl) (by simp) ?_; refine AllReadyH.cons (o := _) rfl (fun K hK => ?_) AllReadyH.nil
    go_simp
    skip
    refine hK.out _ _ (by (try dsimp only); exact far7 hHeld hne) (fun hHeld => ?_)
    clear hK K
    (try simp only [Act.put, tA, tZ, tS])
    (refine tk 16 (some 8) (v := ?_) rfl ?_ ?_; rotate_left; · (intro w hSw; (try dsimp only at hSw); go_simp; (try with_reducible rfl)))
    (try simp only [Act.put, tA, tZ, tS])
    (refine tk 17 (some 9) (v := ?_) rfl ?_ ?_; rotate_left; · (intro w hSw; (try dsimp only at hSw); go_simp; (try with_reducible rfl)))
    (try simp only [Act.put, tA, tZ, tS])
    refine wpAnyH_done (by kernel_rfl) ?_ _
    refine NoPanic.normal ?_
    have hp3 := set7 (y0 := .slice A ats.length c) (y1 := .int .i64 pg) (y2 := .bool rw) (y3 := .bool ru) (y4 := .bool rx) (y5 := .bool lg) (y6 := .bool dy) hp0
    have x3 : Chg [] w1 _ := x0.trans (chg7 (y0 := .slice A ats.length c) (y1 := .int .i64 pg) (y2 := .bool rw) (y3 := .bool ru) (y4 := .bool rx) (y5 := .bool lg) (y6 := .bool dy) (g := pb) (Chg.refl [pb] u2) (by simp)) (by intro i hi hm; simp at hm; subst hm; omega)
    have r3 := OwnA.chg r2 (chg7 (y0 := .slice A ats.length c) (y1 := .int .i64 pg) (y2 := .bool rw) (y3 := .bool ru) (y4 := .bool rx) (y5 := .bool lg) (y6 := .bool dy) (g := pb) (Chg.refl [pb] u2) (by simp)) (fun g hg hm => by simp at hm; exact (hlo g hg).2 hm)
    have hpb := hp3.lt
    clear hHeld r2 hp0 x0 z0 z1 z2 z3 z4 z5 z6 g0 g1 g2 g3 g4 g5 g6
    generalize ((((((u2.setCell ⟨pb, 0, none⟩ (.slice A ats.length c)).setCell ⟨pb, 1, none⟩ (.int .i64 pg)).setCell ⟨pb, 2, none⟩ (.bool rw)).setCell ⟨pb, 3, none⟩ (.bool ru)).setCell ⟨pb, 4, none⟩ (.bool rx)).setCell ⟨pb, 5, none⟩ (.bool lg)).setCell ⟨pb, 6, none⟩ (.bool dy) = w3 at *
    have hlo := fun g hg => (hlo g hg).1
    clear hne hWk
    have k3 : Chg [] w w3 := k1.trans x3 (by simp)
    have H3 := H0.more (G := [pb]) k3 (by intro i hi; simp at hi; subst hi; exact ⟨Nat.le_trans k1.size hpl, hpb⟩)
    clear x3 hm1
    obtain ⟨c0, c1, c2⟩ := H3.c
    obtain ⟨p0_, p1_, p2_, p3_, p4_, p5_, p6_, _, _, _, _, _, _, _⟩ := blk7 hp3
    have K1 := fun nq : Cls w3 => nq.cell c0
    have J0 := fun nq : Cls w3 => nq.cell p0_
    have J1 := fun nq : Cls w3 => nq.cell p1_
    have J2 := fun nq : Cls w3 => nq.cell p2_
    have J3 := fun nq : Cls w3 => nq.cell p3_
    have J4 := fun nq : Cls w3 => nq.cell p4_
    have J5 := fun nq : Cls w3 => nq.cell p5_
    have J6 := fun nq : Cls w3 => nq.cell p6_
    have hsl := OwnA.sla r3
    have hMk := fun nq : Cls w3 => RMarked_at q S p L h b n sW A c ⟨ats, pg, ⟨rw, ru, rx⟩, lg, dy⟩ nq.val (H3.gu.self nq.ok) H3.ok.wd (hsl.self nq.ok) hall
    simp only [pathV, hus] at hMk
    clear hus
    go_wp2_with fail
    refine wp_region_cls (by kernel_rfl) (by kernel_rfl) ?_
    repeat (go_big_quiet_step (first | (go_at_call 101; with_reducible exact Calls.cls (hMk _))))
    refine wpQuiet_nil ?_
    rintro _ ⟨n5, rfl⟩
    have k5 := k3.trans n5.ok (by simp)
    have H5 := H3.new n5.ok
    have hp5 := n5.blk hp3
    generalize n5.val = w5 at *
    clear c0 c1 c2 p0_ p1_ p2_ p3_ p4_ p5_ p6_ K1 J0 J1 J2 J3 J4 J5 J6 hMk
    have hle := fun w9 (k9 : Chg [] w5 w9) => RTPut_b ⟨0, page, pg, rw, ru, rx, dy⟩ (H5.new k9).tb
    simp only [Ht.v, HT4.out] at hle
    go_wp2_with fail
    refine wp_region_noPanic ?_
    refine wp_region_held_drew (S := (fun w' => Blk w' m 95 #[.pointer (some ⟨q, 0, none⟩), .int .i64 sr, .pointer (some ⟨t, 0, none⟩)] ∧ Blk w' pb 108 #[.slice A ats.length c, .int .i64 pg, .bool rw, .bool ru, .bool rx, .bool lg, .bool dy])) (by kernel_rfl) ?_ (fun hHeld => ?_)
    · exact ⟨H5.st.drew, hp5.drew⟩
    (refine tk 0 (some 44) (v := ?_) rfl ?_ ?_; rotate_left; · (intro w hSw; (try dsimp only at hSw); obtain ⟨hSm, hSp⟩ := hSw; obtain ⟨c0_, c1_, c2_⟩ := blk3 hSm; obtain ⟨z0_, z1_, z2_, z3_, z4_, z5_, z6_, _, _, _, _, _, _, _⟩ := blk7 hSp; go_simp; (try with_reducible rfl)))
    (try simp only [Act.put, tA, tZ, tS])
    (refine tk 1 (some 45) (v := ?_) rfl ?_ ?_; rotate_left; · (intro w hSw; (try dsimp only at hSw); obtain ⟨hSm, hSp⟩ := hSw; obtain ⟨c0_, c1_, c2_⟩ := blk3 hSm; obtain ⟨z0_, z1_, z2_, z3_, z4_, z5_, z6_, _, _, _, _, _, _, _⟩ := blk7 hSp; go_simp; (try with_reducible rfl)))
    (try simp only [Act.put, tA, tZ, tS])
    (refine tk 2 (some 46) (v := ?_) rfl ?_ ?_; rotate_left; · (intro w hSw; (try dsimp only at hSw); obtain ⟨hSm, hSp⟩ := hSw; obtain ⟨c0_, c1_, c2_⟩ := blk3 hSm; obtain ⟨z0_, z1_, z2_, z3_, z4_, z5_, z6_, _, _, _, _, _, _, _⟩ := blk7 hSp; go_simp; (try with_reducible rfl)))
    (try simp only [Act.put, tA, tZ, tS])
    (refine tk 3 (some 47) (v := ?_) rfl ?_ ?_; rotate_left; · (intro w hSw; (try dsimp only at hSw); obtain ⟨hSm, hSp⟩ := hSw; obtain ⟨c0_, c1_, c2_⟩ := blk3 hSm; obtain ⟨z0_, z1_, z2_, z3_, z4_, z5_, z6_, _, _, _, _, _, _, _⟩ := blk7 hSp; go_simp; (try with_reducible rfl)))
    (try simp only [Act.put, tA, tZ, tS])
    (refine tk 4 (some 48) (v := ?_) rfl ?_ ?_; rotate_left; · (intro w hSw; (try dsimp only at hSw); obtain ⟨hSm, hSp⟩ := hSw; obtain ⟨c0_, c1_, c2_⟩ := blk3 hSm; obtain ⟨z0_, z1_, z2_, z3_, z4_, z5_, z6_, _, _, _, _, _, _, _⟩ := blk7 hSp; go_simp; (try with_reducible rfl)))
    (try simp only [Act.put, tA, tZ, tS])
    (refine tk 5 (some 49) (v := ?_) rfl ?_ ?_; rotate_left; · (intro w hSw; (try dsimp only at hSw); obtain ⟨hSm, hSp⟩ := hSw; obtain ⟨c0_, c1_, c2_⟩ := blk3 hSm; obtain ⟨z0_, z1_, z2_, z3_, z4_, z5_, z6_, _, _, _, _, _, _, _⟩ := blk7 hSp; go_simp; (try with_reducible rfl)))
    (try simp only [Act.put, tA, tZ, tS])
    (refine tk 6 (some 50) (v := ?_) rfl ?_ ?_; rotate_left; · (intro w hSw; (try dsimp only at hSw); obtain ⟨hSm, hSp⟩ := hSw; obtain ⟨c0_, c1_, c2_⟩ := blk3 hSm; obtain ⟨z0_, z1_, z2_, z3_, z4_, z5_, z6_, _, _, _, _, _, _, _⟩ := blk7 hSp; go_simp; (try with_reducible rfl)))
    (try simp only [Act.put, tA, tZ, tS])
    (refine tk 7 (some 51) (v := ?_) rfl ?_ ?_; rotate_left; · (intro w hSw; (try dsimp only at hSw); obtain ⟨hSm, hSp⟩ := hSw; obtain ⟨c0_, c1_, c2_⟩ := blk3 hSm; obtain ⟨z0_, z1_, z2_, z3_, z4_, z5_, z6_, _, _, _, _, _, _, _⟩ := blk7 hSp; go_simp; (try with_reducible rfl)))
    (try simp only [Act.put, tA, tZ, tS])
    (refine tk 8 (some 52) (v := ?_) rfl ?_ ?_; rotate_left; · (intro w hSw; (try dsimp only at hSw); obtain ⟨hSm, hSp⟩ := hSw; obtain ⟨c0_, c1_, c2_⟩ := blk3 hSm; obtain ⟨z0_, z1_, z2_, z3_, z4_, z5_, z6_, _, _, _, _, _, _, _⟩ := blk7 hSp; go_simp; (try with_reducible rfl)))
    (try simp only [Act.put, tA, tZ, tS])
    (refine tk 9 (some 53) (v := ?_) rfl ?_ ?_; rotate_left; · (intro w hSw; (try dsimp only at hSw); obtain ⟨hSm, hSp⟩ := hSw; obtain ⟨c0_, c1_, c2_⟩ := blk3 hSm; obtain ⟨z0_, z1_, z2_, z3_, z4_, z5_, z6_, _, _, _, _, _, _, _⟩ := blk7 hSp; go_simp; (try with_reducible rfl)))
    (try simp only [Act.put, tA, tZ, tS])
    (refine tk 10 (some 54) (v := ?_) rfl ?_ ?_; rotate_left; · (intro w hSw; (try dsimp only at hSw); obtain ⟨hSm, hSp⟩ := hSw; obtain ⟨c0_, c1_, c2_⟩ := blk3 hSm; obtain ⟨z0_, z1_, z2_, z3_, z4_, z5_, z6_, _, _, _, _, _, _, _⟩ := blk7 hSp; go_simp; (try with_reducible rfl)))
    (try simp only [Act.put, tA, tZ, tS])
    (refine tk 11 (some 55) (v := ?_) rfl ?_ ?_; rotate_left; · (intro w hSw; (try dsimp only at hSw); obtain ⟨hSm, hSp⟩ := hSw; obtain ⟨c0_, c1_, c2_⟩ := blk3 hSm; obtain ⟨z0_, z1_, z2_, z3_, z4_, z5_, z6_, _, _, _, _, _, _, _⟩ := blk7 hSp; go_simp; (try with_reducible rfl)))
    (try simp only [Act.put, tA, tZ, tS])
    refine wpAnyH_ready (rs := [12]) (by kernel_rfl) (by simp) ?_; refine AllReadyH.cons (o := _) rfl (fun K hK => ?_) AllReadyH.nil
    go_simp
    (go_at_call 61; refine (hle _ ((Chg.refl [] w5).drew)).mono ?_; rintro e w6 ⟨rfl, h6, f6⟩)
    refine hK.out _ _ (by (try dsimp only); exact ⟨f6.blk hHeld.1 (by simp [mB]), f6.blk hHeld.2 (by simp)⟩) (fun hHeld => ?_)
    clear hK K
    (try simp only [Act.put, tA, tZ, tS])
    refine wpAnyH_done (by kernel_rfl) ?_ _
    refine NoPanic.normal ?_
    have H6 := (H5.new ((Chg.refl [] w5).drew)).setT h6 f6 (H5.ok.put (x := ⟨0, page, pg, rw, ru, rx, dy⟩) ⟨rfl, path_g0 hgl.1, hgl.2.2⟩ |> fun hh => HT4.out ▸ hh)
    go_wp2_with fail
    go_ret
    exact ⟨rfl, H6.less (fun i hi => by simp [hi]), (Far.of_new (k5.trans ((Chg.refl [] w5).drew) (by simp))).trans (f6.less (fun i hi => by simp [hi]))⟩

theorem RMFind_b (page : Int) (H : RModB w0 F w m t q S p L h b n s) :
    Calls Tryz.prog 67 #[.pointer (some ⟨m, 0, none⟩), .int .i64 page] w fun e w' => e = .returned (.bool (findB n L s page)) ∧ RModB w0 F w' m t q S p L h b n (findM n L s page) ∧ Far F w w' := by
  unfold findM
  cases hr : walkP n s.W L s.r page 0 false with
  | mk P hc =>
    obtain ⟨how, code⟩ := hc
    cases hu : hasT s.T 0 page with
    | true =>
      have e : findB n L s page = false := by simp [findB, hu]
      rw [e]; exact rfind_known page H P how code hu hr
    | false =>
      by_cases h0 : how = 0
      · subst h0
        obtain rfl := (done_of hr).1
        cases hus : usedAts n s.W L P.ats with
        | true =>
          have e : findB n L s page = true := by simp [findB, hu, hr, hus]
          rw [e]; exact rfind_done page H P hu hr hus
        | false =>
          have e : findB n L s page = false := by simp [findB, hu, hr, hus]
          rw [e]; exact rfind_bare page H P hu hr hus
      · have e : findB n L s page = false := by simp [findB, hu, hr, h0]
        rw [e]; exact rfind_stop page H P how code hu hr (by simpa using h0)

end

end Go.Proofs.YtgebfagiomcmbaaGreatDoor
