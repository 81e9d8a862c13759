/-
  The contracts of model's methods: what is new since a world w0, and apart from some blocks.
-/
import Derived.Test.YtedginkenmafmaaGreatDoorModelA
namespace Go.Proofs.YtedginkenmafmaaGreatDoor
open Go.RowKit Go.Shelf

/-- the blocks of a model but those of what it knows -/
def mB (m q : Nat) (S : List Nat) (h b : Nat) : List Nat := m :: b :: q :: h :: S
/-- m is a model: its guest's memory q (of a map p of L, in the host h of n frames, whose words are b), what it knows lies in t; what of it turns is new since w0 and none of F; nothing of w0 has turned -/
structure ModB (w0 : World) (F : List Nat) (w : World) (m t q : Nat) (S : List Nat) (p : Nat) (L : List Int) (h b n : Nat) (s : Ms) : Prop where
  tb : TB w0 (mB m q S h b ++ F) w t 512 s.T
  gu : GuIn w q S p L h b n s.W
  st : Blk w m 98 #[.pointer (some ⟨t, 0, none⟩), .pointer (some ⟨q, 0, none⟩), .int .i64 s.r]
  er : ErrIn w0
  ok : OkM n L s
  nm : w0.heap.size ≤ m
  nb : w0.heap.size ≤ b
  ap : ∀ i ∈ mB m q S h b, i ∉ F
  ms : m ∉ b :: q :: h :: S

section
variable {w0 w w' : World} {F G : List Nat} {m t q p h b n : Nat} {S : List Nat} {L : List Int} {s : Ms}
theorem GuIn.lt {W : List Int} (g : GuIn w q S p L h b n W) : ∀ i ∈ b :: q :: h :: S, i < w.heap.size := by
  intro i hi
  simp only [List.mem_cons] at hi
  rcases hi with rfl | rfl | rfl | hi
  · exact g.hm.ws.lt
  · exact g.st.lt
  · exact g.hm.st.lt
  · exact g.mp.lt i hi
theorem ModB.c0 (H : ModB w0 F w m t q S p L h b n s) : Chg [] w0 w := H.tb.1
theorem ModB.eR (H : ModB w0 F w m t q S p L h b n s) : ErrIn w := H.er.self H.tb.1
theorem ModB.c (H : ModB w0 F w m t q S p L h b n s) : w.cell? ⟨m, 0, none⟩ = some (.pointer (some ⟨t, 0, none⟩)) ∧ w.cell? ⟨m, 1, none⟩ = some (.pointer (some ⟨q, 0, none⟩)) ∧ w.cell? ⟨m, 2, none⟩ = some (.int .i64 s.r) := blk3 H.st
theorem ModB.lt (H : ModB w0 F w m t q S p L h b n s) : ∀ i ∈ mB m q S h b, i < w.heap.size := by
  intro i hi
  rw [mB, List.mem_cons] at hi
  rcases hi with rfl | hi
  · exact H.st.lt
  · exact H.gu.lt i hi
theorem ModB.bm (H : ModB w0 F w m t q S p L h b n s) : m ≠ b := fun e => H.ms (by rw [e]; simp)
theorem ModB.new (H : ModB w0 F w m t q S p L h b n s) (hc : Chg [] w w') : ModB w0 F w' m t q S p L h b n s :=
  ⟨H.tb.new hc, H.gu.self hc, hc.blk H.st (by simp), H.er, H.ok, H.nm, H.nb, H.ap, H.ms⟩
theorem ModB.less (H : ModB w0 F w m t q S p L h b n s) (hG : ∀ i ∈ G, i ∈ F) : ModB w0 G w m t q S p L h b n s :=
  ⟨H.tb.less (fun i hi => by rw [List.mem_append] at hi ⊢; exact hi.imp id (hG i)), H.gu, H.st, H.er, H.ok, H.nm, H.nb, fun i hi hm => H.ap i hi (hG i hm), H.ms⟩
theorem ModB.more (H : ModB w0 F w m t q S p L h b n s) (hc : Chg [] w w') (hG : ∀ i ∈ G, w.heap.size ≤ i ∧ i < w'.heap.size) : ModB w0 (G ++ F) w' m t q S p L h b n s :=
  ⟨(H.tb.more hc hG).less (fun i hi => by simp only [List.mem_append] at hi ⊢; rcases hi with h | h | h <;> simp [h]), H.gu.self hc, hc.blk H.st (by simp), H.er, H.ok, H.nm, H.nb, fun i hi hm => by
    rw [List.mem_append] at hm
    rcases hm with hm | hm
    · have := (hG i hm).1; have := H.lt i hi; omega
    · exact H.ap i hi hm, H.ms⟩
theorem ModB.setT {T' : List Ht} (H : ModB w0 F w m t q S p L h b n s) (ht : TB w0 (mB m q S h b ++ F) w' t 512 T') (hf : Far (mB m q S h b ++ F) w w') (hok : OkM n L ⟨s.W, s.r, T'⟩) : ModB w0 F w' m t q S p L h b n ⟨s.W, s.r, T'⟩ := by
  obtain ⟨X, hc, hd⟩ := hf
  have hn : ∀ i ∈ mB m q S h b, i ∉ X := fun i hi hm => hd i hm (List.mem_append.2 (.inl hi))
  exact ⟨ht, H.gu.other hc (hn q (by simp [mB])) (fun i hi => hn i (by simp [mB, hi])) (hn h (by simp [mB])) (hn b (by simp [mB])), hc.blk H.st (hn m (by simp [mB])), H.er, hok, H.nm, H.nb, H.ap, H.ms⟩
theorem ModB.setW {W' : List Int} (H : ModB w0 F w m t q S p L h b n s) (hc : Chg [b] w w') (hg : GuIn w' q S p L h b n W') (hok : OkM n L ⟨W', s.r, s.T⟩) : ModB w0 F w' m t q S p L h b n ⟨W', s.r, s.T⟩ ∧ Far F w w' :=
  ⟨⟨H.tb.other hc (by simp [mB]) (by simpa using H.nb), hg, hc.blk H.st (by simpa using H.bm), H.er, hok, H.nm, H.nb, H.ap, H.ms⟩, [b], hc, by simpa using H.ap b (by simp [mB])⟩
theorem ModB.setR (H : ModB w0 F w m t q S p L h b n s) (r' : Int) : ModB w0 F (w.setCell ⟨m, 2, none⟩ (.int .i64 r')) m t q S p L h b n ⟨s.W, r', s.T⟩ ∧ Far F w (w.setCell ⟨m, 2, none⟩ (.int .i64 r')) := by
  have hc : Chg [m] w (w.setCell ⟨m, 2, none⟩ (.int .i64 r')) := (Chg.refl _ _).setCell (by simp) _
  have hs := H.ms
  refine ⟨⟨H.tb.other hc (by simp [mB]) (by simpa using H.nm), H.gu.other hc ?_ ?_ ?_ ?_, ?_, H.er, ⟨H.ok.wd, H.ok.len, H.ok.hits⟩, H.nm, H.nb, H.ap, H.ms⟩, [m], hc, by simpa using H.ap m (by simp [mB])⟩
  · simp only [List.mem_cons, not_or] at hs; simpa using fun e => hs.2.1 e.symm
  · intro i hi hm; simp at hm; subst hm; simp only [List.mem_cons, not_or] at hs; exact hs.2.2.2 hi
  · simp only [List.mem_cons, not_or] at hs; simpa using fun e => hs.2.2.1 e.symm
  · simpa using fun e => H.bm e.symm
  · have := H.st.set_ 2 (.int .i64 r'); simpa using this
/-- a block of one's own turned -/
theorem ModB.own {g : Nat} (H : ModB w0 (g :: F) w m t q S p L h b n s) (hc : Chg [g] w w') (hg : w0.heap.size ≤ g) : ModB w0 F w' m t q S p L h b n s := by
  have hn : ∀ i ∈ mB m q S h b, i ∉ [g] := fun i hi hm => H.ap i hi (by simp at hm; simp [hm])
  exact ⟨(H.tb.other hc (by simp) (by simpa using hg)).less (fun i hi => by rw [List.mem_append] at hi ⊢; rcases hi with hi | hi <;> simp [hi]),
    H.gu.other hc (hn q (by simp [mB])) (fun i hi => hn i (by simp [mB, hi])) (hn h (by simp [mB])) (hn b (by simp [mB])), hc.blk H.st (hn m (by simp [mB])), H.er, H.ok, H.nm, H.nb, fun i hi hm => H.ap i hi (by simp [hm]), H.ms⟩
end

/-- four cells of a block -/
theorem blk4 {w : World} {g : Nat} {t : TypeId} {x0 x1 x2 x3 : Value} (h : Blk w g t #[x0, x1, x2, x3]) : w.cell? ⟨g, 0, none⟩ = some x0 ∧ w.cell? ⟨g, 1, none⟩ = some x1 ∧ w.cell? ⟨g, 2, none⟩ = some x2 ∧ w.cell? ⟨g, 3, none⟩ = some x3 ∧ w.frozen? ⟨g, 0, none⟩ = false ∧ w.frozen? ⟨g, 1, none⟩ = false ∧ w.frozen? ⟨g, 2, none⟩ = false ∧ w.frozen? ⟨g, 3, none⟩ = false :=
  ⟨h.cell 0, h.cell 1, h.cell 2, h.cell 3, h.frozen 0, h.frozen 1, h.frozen 2, h.frozen 3⟩
theorem set4 {w : World} {g : Nat} {t : TypeId} {x0 x1 x2 x3 y0 y1 y2 y3 : Value} (h : Blk w g t #[x0, x1, x2, x3]) : Blk ((((w.setCell ⟨g, 0, none⟩ y0).setCell ⟨g, 1, none⟩ y1).setCell ⟨g, 2, none⟩ y2).setCell ⟨g, 3, none⟩ y3) g t #[y0, y1, y2, y3] := by
  have := (((h.set_ 0 y0).set_ 1 y1).set_ 2 y2).set_ 3 y3
  simpa using this
theorem chg4 {S : List Nat} {a w : World} {g : Nat} {y0 y1 y2 y3 : Value} (h : Chg S a w) (hg : g < a.heap.size → g ∈ S) : Chg S a ((((w.setCell ⟨g, 0, none⟩ y0).setCell ⟨g, 1, none⟩ y1).setCell ⟨g, 2, none⟩ y2).setCell ⟨g, 3, none⟩ y3) := (((h.setCell (p := ⟨g, 0, none⟩) hg y0).setCell (p := ⟨g, 1, none⟩) hg y1).setCell (p := ⟨g, 2, none⟩) hg y2).setCell (p := ⟨g, 3, none⟩) hg y3

section
variable (w0 w : World) (F : List Nat) (m t q p h b n : Nat) (S : List Nat) (L : List Int) (s : Ms)
set_option maxHeartbeats 1000000 in
theorem MNew_b (r : Int) (hE : ErrIn w0) (hc : Chg [] w0 w) (W : List Int) (gu : GuIn w q S p L h b n W) (hW : WdW W) (hb : w0.heap.size ≤ b) :
    Calls Tryz.prog 14 #[.pointer (some ⟨q, 0, none⟩), .int .i64 r] w fun e w' => ∃ m t, e = .returned (.pointer (some ⟨m, 0, none⟩)) ∧ ModB w0 [] w' m t q S p L h b n ⟨W, r, []⟩ ∧ Chg [] w w' := by
  have hT := TNew_b w 512 w (by omega) (by omega) (Chg.refl _ _)
  go_enter Tryz.func14, Tryz.ntmps14
  go_wp2_with fail
  refine hT.mono ?_; rintro e w1 ⟨rfl, h1, k1⟩
  go_wp2_with fail
  go_ret
  have k2 : Chg [] w (w1.alloc (.cells #[.pointer (some ⟨w.heap.size, 0, none⟩), .pointer (some ⟨q, 0, none⟩), .int .i64 r] 98)) := k1.alloc _
  have hms : w1.heap.size ∉ b :: q :: h :: S := fun hm => by have := gu.lt _ hm; have := k1.size; omega
  obtain ⟨_, _, X, h3, h4⟩ := h1
  refine ⟨_, _, rfl, ⟨⟨hc.trans k2 (by simp), fun i hi => ?_, X, h3.self ((Chg.refl [] w1).alloc _), fun i hi => ⟨?_, fun hm => ?_⟩⟩, gu.self k2, Blk.new _ _ _, hE, ⟨hW, gu.hm.len, by simp⟩, by have := hc.size; have := k1.size; omega, hb, by simp, hms⟩, k2⟩
  · rw [List.append_nil, mB, List.mem_cons] at hi
    rcases hi with rfl | hi
    · simp
    · exact Nat.lt_of_lt_of_le (gu.lt i hi) k2.size
  · have := (h4 i hi).1; have := hc.size; omega
  · rw [List.append_nil, mB, List.mem_cons] at hm
    rcases hm with rfl | hm
    · exact absurd (h3.lt _ hi) (by omega)
    · have := gu.lt i hm; have := (h4 i hi).1; omega
end

section
variable {w0 w : World} {F : List Nat} {m t q p h b n : Nat} {S : List Nat} {L : List Int} {s : Ms}
theorem Far.app {F G : List Nat} {w w' : World} (h : Far (G ++ F) w w') : Far F w w' := h.less fun _ hi => List.mem_append.2 (.inr hi)

set_option maxHeartbeats 1000000 in
theorem MForget_b (page : Int) (H : ModB w0 F w m t q S p L h b n s) :
    Calls Tryz.prog 18 #[.pointer (some ⟨m, 0, none⟩), .int .i64 page] w fun e w' => e = .returned (.bool (hasT s.T 0 page)) ∧ ModB w0 F w' m t q S p L h b n (forgetM s page) ∧ Far F w w' := by
  obtain ⟨c0, c1, c2⟩ := H.c
  have hP := PForget_b page H.tb
  have H0 := H
  clear H
  generalize hasT s.T 0 page = u at *
  go_enter Tryz.func18, Tryz.ntmps18
  go_wp2_with fail
  refine hP.mono ?_; rintro e w1 ⟨rfl, h1, f1⟩
  go_wp2_with fail
  go_ret
  exact ⟨rfl, H0.setT h1 f1 (H0.ok.drop _ _), f1.app⟩

set_option maxHeartbeats 1000000 in
theorem MRoot_b (g : Int) (H : ModB w0 F w m t q S p L h b n s) :
    Calls Tryz.prog 20 #[.pointer (some ⟨m, 0, none⟩), .int .i64 g] w fun e w' => e = .returned (.tuple #[]) ∧ ModB w0 F w' m t q S p L h b n (rootM s g) ∧ Far F w w' := by
  obtain ⟨c0, c1, c2⟩ := H.c
  have fz := H.st.frozen 2
  obtain ⟨H1, f1⟩ := H.setR g
  obtain ⟨d0, d1, d2⟩ := H1.c
  have hA := TAll_b H1.tb
  have hok : OkM n L (rootM s g) := H.ok.root g
  clear H
  go_enter Tryz.func20, Tryz.ntmps20
  go_wp2_with fail
  refine hA.mono ?_; rintro e w2 ⟨rfl, h2, f2⟩
  go_wp2_with fail
  go_end0
  exact ⟨rfl, H1.setT h2 f2 hok, f1.trans f2.app⟩

set_option maxHeartbeats 1000000 in
theorem MAll_b (H : ModB w0 F w m t q S p L h b n s) :
    Calls Tryz.prog 29 #[.pointer (some ⟨m, 0, none⟩)] w fun e w' => ∃ A c, e = .returned (.slice A s.T.length c) ∧ Chg [] w w' ∧ OwnH w' (.slice A s.T.length c) s.T ∧ ∀ g ∈ (Value.slice A s.T.length c).ownBlock.toList, w.heap.size ≤ g := by
  obtain ⟨c0, c1, c2⟩ := H.c
  obtain ⟨_, _, X, h3, _⟩ := H.tb
  have hA := TList_at X t 512 s.T w h3
  clear H h3
  go_enter Tryz.func29, Tryz.ntmps29
  go_wp2_with fail
  refine hA.mono ?_; rintro e w2 ⟨v, rfl, k2, ho, hg⟩
  obtain ⟨A, c, rfl, _, _⟩ := ho.form
  go_wp2_with fail
  go_ret
  exact ⟨A, c, rfl, k2, ho, hg⟩

set_option maxHeartbeats 1000000 in
theorem MKnown_b (page : Int) (H : ModB w0 F w m t q S p L h b n s) :
    Calls Tryz.prog 26 #[.pointer (some ⟨m, 0, none⟩), .int .i64 page] w fun e w' => e = .returned (.tuple #[(getT s.T 0 page).v, .bool (hasT s.T 0 page)]) ∧ Chg [] w w' := by
  have hc0 : Chg [] w (w.alloc (.cells #[.int .i64 0, .int .i64 0, .int .i64 0, .bool false, .bool false, .bool false, .bool false] 45)) := (Chg.refl [] w).alloc _
  have hb := Blk.new w 45 #[.int .i64 0, .int .i64 0, .int .i64 0, .bool false, .bool false, .bool false, .bool false]
  obtain ⟨c0, c1, c2⟩ := H.c
  have hmlt := H.st.lt
  have hP := POf_b page (H.new hc0).tb
  clear H
  generalize hasT s.T 0 page = u at *
  generalize getT s.T 0 page = x at *
  obtain ⟨ha, hp, hf, hw, hu, hx, hd⟩ := x
  simp only [Ht.v] at *
  go_enter Tryz.func26, Tryz.ntmps26
  go_wp2_with fail
  refine hP.mono ?_; rintro e w1 ⟨rfl, _, k1⟩
  have hb1 := hb.chg_ k1 (by simp)
  have hcc := hc0.trans k1 (by simp)
  obtain ⟨r0, r1, r2, r3, r4, r5, r6, f0, f1, f2, f3, f4, f5, f6⟩ := blk7 hb1
  clear hP hb k1 hc0
  go_wp2_with fail
  refine bodyPost_ret (cell_tmp_ret rfl (set7 hb1) rfl Tryz.underlying45 rfl (by kernel_rfl)) rfl ?_
  exact ⟨rfl, chg7 hcc (by omega)⟩

set_option maxHeartbeats 1000000 in
theorem MEdit_b (g i v : Int) (hv : 0 ≤ v ∧ v < 18446744073709551616) (H : ModB w0 F w m t q S p L h b n s) :
    Calls Tryz.prog 16 #[.pointer (some ⟨m, 0, none⟩), .int .i64 g, .int .i64 i, .int .u64 v] w fun e w' => e = .returned (.agg (editM n L s g i v).2.cs) ∧ ModB w0 F w' m t q S p L h b n (editM n L s g i v).1 ∧ Far F w w' := by
  have hc0 : Chg [] w (w.alloc (.cells #[.int .i64 0, .int .u64 0, .int .i64 0, .int .u64 0] 37)) := (Chg.refl [] w).alloc _
  have hr := Blk.new w 37 #[.int .i64 0, .int .u64 0, .int .i64 0, .int .u64 0]
  have H1 := H.more (G := [w.heap.size]) hc0 (by intro i hi; simp at hi; subst hi; simp)
  obtain ⟨c0, c1, c2⟩ := H.c
  have hmlt := H.st.lt
  have hs0 : w0.heap.size ≤ w.heap.size := H.c0.size
  have hF : w.heap.size ∉ F := fun hm => by have := H.tb.2.1 _ (List.mem_append.2 (.inr hm)); omega
  have hbr : w.heap.size ≠ b := fun e => H1.ap b (by simp [mB]) (by simp [e])
  have hG := GuSet_at q S p L h b n s.W g i v _ H1.gu
  have hok := H1.ok.set g i hv
  unfold editM
  clear H
  generalize hasG n L g i = u at *
  generalize setG n s.W L g i v = W' at *
  simp only [Ot.cs]
  have hU := fun w0 => unless_any u 3 w0
  generalize (if u = true then (0 : Int) else 3) = how at *
  go_enter Tryz.func16, Tryz.ntmps16
  go_wp2_with fail
  refine hG.mono ?_; rintro e w2 ⟨rfl, k2, g2⟩
  obtain ⟨H2, f2⟩ := H1.setW k2 g2 hok
  have hr2 := f2.blk hr (by simp)
  obtain ⟨r0, r1, r2, r3, z0, z1, z2, z3⟩ := blk4 hr2
  clear hG hr g2 k2
  go_wp2_with fail
  refine (hU _).mono ?_; rintro e w3 ⟨rfl, rfl⟩
  go_wp2_with fail
  refine bodyPost_ret (cell_ret rfl (set4 hr2) rfl Tryz.underlying37 rfl (by kernel_rfl)) rfl ?_
  have hcg := chg4 (y0 := .int .i64 how) (y1 := .int .u64 0) (y2 := .int .i64 0) (y3 := .int .u64 0) (g := w.heap.size) (Chg.refl [w.heap.size] w2) (by simp)
  exact ⟨rfl, H2.own hcg hs0, (Far.of_new hc0).trans ((f2.less (fun i hi => by simp [hi])).trans ⟨_, hcg, by simpa using hF⟩)⟩

set_option maxHeartbeats 1000000 in
theorem MTouch_b (g i k v : Int) (hv : 0 ≤ v ∧ v < 18446744073709551616) (H : ModB w0 F w m t q S p L h b n s) :
    Calls Tryz.prog 71 #[.pointer (some ⟨m, 0, none⟩), .int .i64 g, .int .i64 i, .int .i64 k, .int .u64 v] w fun e w' => e = .returned (.agg (touchM n L s g i k v).2.cs) ∧ ModB w0 F w' m t q S p L h b n (touchM n L s g i k v).1 ∧ Far F w w' := by
  have hc0 : Chg [] w (w.alloc (.cells #[.int .i64 0, .int .u64 0, .int .i64 0, .int .u64 0] 37)) := (Chg.refl [] w).alloc _
  have hr := Blk.new w 37 #[.int .i64 0, .int .u64 0, .int .i64 0, .int .u64 0]
  have H1 := H.more (G := [w.heap.size]) hc0 (by intro i hi; simp at hi; subst hi; simp)
  obtain ⟨c0, c1, c2⟩ := H.c
  have hmlt := H.st.lt
  have hs0 : w0.heap.size ≤ w.heap.size := H.c0.size
  have hF : w.heap.size ∉ F := fun hm => by have := H.tb.2.1 _ (List.mem_append.2 (.inr hm)); omega
  have hbr : w.heap.size ≠ b := fun e => H1.ap b (by simp [mB]) (by simp [e])
  unfold touchM
  have H0 := H
  clear H
  by_cases hk : k = 1
  · subst hk
    have hG := GuSet_at q S p L h b n s.W g i v _ H1.gu
    have hok := H1.ok.set g i hv
    generalize hasG n L g i = u at *
    generalize setG n s.W L g i v = W' at *
    simp only [Ot.cs, Ot.zero, beq_self_eq_true, if_true]
    go_enter Tryz.func71, Tryz.ntmps71
    go_wp2_with fail
    refine hG.mono ?_; rintro e w2 ⟨rfl, k2, g2⟩
    obtain ⟨H2, f2⟩ := H1.setW k2 g2 hok
    have hr2 := f2.blk hr (by simp)
    obtain ⟨r0, r1, r2, r3, z0, z1, z2, z3⟩ := blk4 hr2
    clear hG hr g2 k2
    go_wp2_with fail
    refine bodyPost_ret (cell_ret rfl (set4 hr2) rfl Tryz.underlying37 rfl (by kernel_rfl)) rfl ?_
    have hcg := chg4 (y0 := .int .i64 0) (y1 := .int .u64 0) (y2 := .int .i64 0) (y3 := .int .u64 0) (g := w.heap.size) (Chg.refl [w.heap.size] w2) (by simp)
    exact ⟨rfl, H2.own hcg hs0, (Far.of_new hc0).trans ((f2.less (fun i hi => by simp [hi])).trans ⟨_, hcg, by simpa using hF⟩)⟩
  · have hk' : (k == 1) = false := by simpa using hk
    have hG := GuGet_at q S p L h b n s.W g i _ H1.gu
    rw [hk']
    generalize hasG n L g i = u at *
    generalize getG n s.W L g i = x at *
    simp only [Ot.cs, Bool.false_eq_true, if_false]
    obtain ⟨r0, r1, r2, r3, z0, z1, z2, z3⟩ := blk4 hr
    go_enter Tryz.func71, Tryz.ntmps71
    go_wp2_with fail
    refine hG.mono ?_; rintro e w2 ⟨rfl, rfl⟩
    go_wp2_with fail
    refine bodyPost_ret (cell_ret rfl (Blk.new _ _ _) rfl Tryz.underlying37 rfl (by kernel_rfl)) rfl ?_
    exact ⟨rfl, H0.new ((Chg.refl [] w).alloc _), Far.of_new ((Chg.refl [] w).alloc _)⟩
end

end Go.Proofs.YtedginkenmafmaaGreatDoor
