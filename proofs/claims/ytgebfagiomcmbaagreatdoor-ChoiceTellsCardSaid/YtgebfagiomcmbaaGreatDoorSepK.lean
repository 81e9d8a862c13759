/-
  Things that lie side by side and apart: each has blocks of its own, all new since a world w0. No function of the program is named here.
-/
import Derived.Test.YtgebfagiomcmbaaGreatDoorRowGK
import Derived.Test.YtgebfagiomcmbaaGreatDoorG10bK
namespace Go.Proofs.YtgebfagiomcmbaaGreatDoor
open Go.RowKit

/-- a thing: where it lies, in which blocks; it stays as it is where none of these has turned -/
structure Th where
  at_ : World → List Nat → Prop
  lt : ∀ {w S}, at_ w S → ∀ i ∈ S, i < w.heap.size
  chg : ∀ {w w' S T}, at_ w S → Chg T w w' → (∀ i ∈ S, i ∉ T) → at_ w' S
/-- things, apart; U: all their blocks -/
def Sep (w0 w : World) : List Th → List Nat → Prop
  | [], U => U = []
  | P :: l, U => ∃ S V, U = S ++ V ∧ P.at_ w S ∧ (∀ i ∈ S, w0.heap.size ≤ i ∧ i ∉ V) ∧ Sep w0 w l V
/-- nothing of w0 has turned, and these things lie here, apart -/
def SepC (w0 w : World) (l : List Th) : Prop := Chg [] w0 w ∧ ∃ U, Sep w0 w l U

section
variable {w0 w w' : World} {P P' Q : Th} {l : List Th} {U : List Nat}
theorem Sep.lt : ∀ {l : List Th} {U : List Nat}, Sep w0 w l U → ∀ i ∈ U, i < w.heap.size
  | [], _, h, i, hi => by rw [show _ = [] from h] at hi; simp at hi
  | P :: l, U, ⟨S, V, e, hp, _, hr⟩, i, hi => by
    rw [e, List.mem_append] at hi
    rcases hi with hi | hi
    · exact P.lt hp i hi
    · exact Sep.lt hr i hi
theorem Sep.ge : ∀ {l : List Th} {U : List Nat}, Sep w0 w l U → ∀ i ∈ U, w0.heap.size ≤ i
  | [], _, h, i, hi => by rw [show _ = [] from h] at hi; simp at hi
  | P :: l, U, ⟨S, V, e, _, hn, hr⟩, i, hi => by
    rw [e, List.mem_append] at hi
    rcases hi with hi | hi
    · exact (hn i hi).1
    · exact Sep.ge hr i hi
theorem Sep.chg {T : List Nat} : ∀ {l : List Th} {U : List Nat}, Sep w0 w l U → Chg T w w' → (∀ i ∈ U, i ∉ T) → Sep w0 w' l U
  | [], _, h, _, _ => h
  | P :: l, U, ⟨S, V, e, hp, hn, hr⟩, hc, hd => ⟨S, V, e, P.chg hp hc (fun i hi => hd i (by rw [e]; simp [hi])), hn, Sep.chg hr hc (fun i hi => hd i (by rw [e]; simp [hi]))⟩
theorem SepC.nil (w : World) : SepC w w [] := ⟨Chg.refl _ _, [], rfl⟩
theorem SepC.new (H : SepC w0 w l) (hc : Chg [] w w') : SepC w0 w' l := by
  obtain ⟨h0, U, h⟩ := H
  exact ⟨h0.trans hc (by simp), U, h.chg hc (by simp)⟩
theorem SepC.swap (H : SepC w0 w (P :: Q :: l)) : SepC w0 w (Q :: P :: l) := by
  obtain ⟨h0, U, S, V, e, hp, hn, S', V', e', hq, hn', hr⟩ := H
  subst e'
  refine ⟨h0, S' ++ (S ++ V'), S', S ++ V', rfl, hq, fun i hi => ⟨(hn' i hi).1, fun hm => ?_⟩, S, V', rfl, hp, fun i hi => ⟨(hn i hi).1, fun hm => (hn i hi).2 (by simp [hm])⟩, hr⟩
  rw [List.mem_append] at hm
  rcases hm with hm | hm
  · exact (hn i hm).2 (by simp [hi])
  · exact (hn' i hi).2 hm
theorem SepC.under (H : SepC w0 w (P :: l)) {l' : List Th} (h : ∀ V, Sep w0 w l V → ∃ V', Sep w0 w l' V' ∧ ∀ i ∈ V', i ∈ V) : SepC w0 w (P :: l') := by
  obtain ⟨h0, U, S, V, e, hp, hn, hr⟩ := H
  obtain ⟨V', hr', hs⟩ := h V hr
  exact ⟨h0, S ++ V', S, V', rfl, hp, fun i hi => ⟨(hn i hi).1, fun hm => (hn i hi).2 (hs i hm)⟩, hr'⟩
theorem Sep.pickV : ∀ (i : Nat) {l : List Th} {U : List Nat} {P : Th}, Sep w0 w l U → l[i]? = some P → ∃ U', Sep w0 w (P :: l.eraseIdx i) U' ∧ ∀ j ∈ U', j ∈ U
  | 0, [], _, _, _, h => by simp at h
  | 0, Q :: l, U, P, H, h => by simp at h; subst h; exact ⟨U, H, fun _ hi => hi⟩
  | i + 1, [], _, _, _, h => by simp at h
  | i + 1, Q :: l, U, P, ⟨S, V, e, hp, hn, hr⟩, h => by
    rw [List.getElem?_cons_succ] at h
    obtain ⟨V1, ⟨S', V2, e', hq, hn', hr'⟩, hs⟩ := Sep.pickV i hr h
    subst e; subst e'
    refine ⟨S' ++ (S ++ V2), ⟨S', S ++ V2, rfl, hq, fun j hj => ⟨(hn' j hj).1, fun hm => ?_⟩, S, V2, rfl, hp, fun j hj => ⟨(hn j hj).1, fun hm => (hn j hj).2 (hs j (by simp [hm]))⟩, hr'⟩, fun j hj => ?_⟩
    · rw [List.mem_append] at hm
      rcases hm with hm | hm
      · exact (hn j hm).2 (hs j (by simp [hj]))
      · exact (hn' j hj).2 hm
    · simp only [List.mem_append] at hj ⊢
      rcases hj with hj | hj | hj
      · exact .inr (hs j (by simp [hj]))
      · exact .inl hj
      · exact .inr (hs j (by simp [hj]))
/-- the one at place i first -/
theorem SepC.pick (i : Nat) (H : SepC w0 w l) (h : l[i]? = some P) : SepC w0 w (P :: l.eraseIdx i) := by
  obtain ⟨h0, U, hU⟩ := H
  obtain ⟨U', h', _⟩ := Sep.pickV i hU h
  exact ⟨h0, U', h'⟩
/-- what is known of the first one -/
theorem SepC.fst (H : SepC w0 w (P :: l)) : ∃ S, P.at_ w S ∧ ∀ i ∈ S, w0.heap.size ≤ i := by
  obtain ⟨h0, U, S, V, e, hp, hn, hr⟩ := H
  exact ⟨S, hp, fun i hi => (hn i hi).1⟩
/-- a call that turns the first one alone -/
theorem SepC.callV {f : FuncId} {args : Array Value} {v : Value} {prog : Program} (H : SepC w0 w (P :: l))
    (hc : ∀ S V, P.at_ w S → (∀ i ∈ S, w0.heap.size ≤ i ∧ i ∉ V) → Sep w0 w l V → Calls prog f args w fun e w' => e = .returned v ∧ ∃ S', P'.at_ w' S' ∧ Chg S w w' ∧ ∀ i ∈ S', i ∈ S ∨ w.heap.size ≤ i) :
    Calls prog f args w fun e w' => e = .returned v ∧ SepC w0 w' (P' :: l) := by
  obtain ⟨h0, U, S, V, e, hp, hn, hr⟩ := H
  refine (hc S V hp hn hr).mono fun e w' ⟨he, S', hp', hch, hg⟩ => ⟨he, h0.trans hch (fun i hi hm => by have := (hn i hm).1; omega), S' ++ V, S', V, rfl, hp', fun i hi => ?_, hr.chg hch fun i hi hm => (hn i hm).2 hi⟩
  rcases hg i hi with h | h
  · exact hn i h
  · exact ⟨Nat.le_trans h0.size h, fun hm => by have := hr.lt i hm; omega⟩
/-- something is laid, in new blocks -/
theorem SepC.lay {S : List Nat} (H : SepC w0 w l) (hc : Chg [] w w') (hp : P.at_ w' S) (hn : ∀ i ∈ S, w.heap.size ≤ i) : SepC w0 w' (P :: l) := by
  obtain ⟨h0, U, h⟩ := H
  exact ⟨h0.trans hc (by simp), S ++ U, S, U, rfl, hp, fun i hi => ⟨Nat.le_trans h0.size (hn i hi), fun hm => by have := h.lt i hm; have := hn i hi; omega⟩, h.chg hc (by simp)⟩
/-- the first one turns, by a step of the walk -/
theorem SepC.step {S S' : List Nat} (H : SepC w0 w (P :: l)) (h1 : ∀ T, P.at_ w T → T = S) (hc : Chg S w w') (hp : P'.at_ w' S') (hn : ∀ i ∈ S', i ∈ S ∨ w.heap.size ≤ i) : SepC w0 w' (P' :: l) := by
  obtain ⟨h0, U, T, V, e, hq, hm, hr⟩ := H
  obtain rfl := h1 T hq
  refine ⟨h0.trans hc (fun i hi hm' => by have := (hm i hm').1; omega), S' ++ V, S', V, rfl, hp, fun i hi => ?_, hr.chg hc fun i hi hm' => (hm i hm').2 hi⟩
  rcases hn i hi with h | h
  · exact hm i h
  · exact ⟨Nat.le_trans h0.size h, fun hm => by have := hr.lt i hm; omega⟩
end

/-- a block -/
def blkT (g : Nat) (t : TypeId) (cs : Array Value) : Th := ⟨fun w S => S = [g] ∧ Blk w g t cs, fun h i hi => by rw [h.1] at hi; simp at hi; rw [hi]; exact h.2.lt, fun h hc hn => ⟨h.1, hc.blk h.2 (hn g (by rw [h.1]; simp))⟩⟩
/-- a list of one's own -/
def ownT {α : Type} (E : Enc α) (t : TypeId) (v : Value) (L : List α) : Th := ⟨fun w S => S = v.ownBlock.toList ∧ OwnG E w t v L, fun h i hi => h.2.lt i (by rw [← h.1]; exact hi), fun h hc hn => ⟨h.1, h.2.chg hc (fun g hg => hn g (by rw [h.1]; exact hg))⟩⟩
section
variable {w0 w w' : World} {l : List Th} {g : Nat} {t : TypeId} {cs : Array Value} {α : Type} {E : Enc α} {v v' : Value} {L M : List α}
theorem SepC.alloc (H : SepC w0 w l) (cs : Array Value) (t : TypeId) : SepC w0 (w.alloc (.cells cs t)) (blkT w.heap.size t cs :: l) :=
  H.lay (S := [w.heap.size]) ((Chg.refl [] w).alloc _) ⟨rfl, Blk.new w t cs⟩ (by simp)
theorem SepC.blk (H : SepC w0 w (blkT g t cs :: l)) : Blk w g t cs := by
  obtain ⟨S, h, _⟩ := H.fst; exact h.2
theorem SepC.own (H : SepC w0 w (ownT E t v L :: l)) : OwnG E w t v L := by
  obtain ⟨S, h, _⟩ := H.fst; exact h.2
theorem SepC.ownNil (H : SepC w0 w l) (E : Enc α) (t : TypeId) : SepC w0 w (ownT E t (.slice none 0 0) [] :: l) :=
  H.lay (S := []) (Chg.refl [] w) ⟨rfl, OwnG.none_ _ _⟩ (by simp)
/-- something was appended to it -/
theorem SepC.app (H : SepC w0 w (ownT E t v L :: l)) (ho : OwnG E w' t v' M) (hc : Chg v.ownBlock.toList w w') (hb : v'.ownBlock = v.ownBlock ∨ v'.ownBlock = some w.heap.size) : SepC w0 w' (ownT E t v' M :: l) :=
  H.step (S := v.ownBlock.toList) (S' := v'.ownBlock.toList) (fun _ h => h.1) hc ⟨rfl, ho⟩ fun i hi => by
    rcases hb with e | e
    · exact .inl (e ▸ hi)
    · rw [e] at hi; simp at hi; exact .inr (by omega)
end

/-! a model -/
def modT (w0 : World) (m t q : Nat) (S : List Nat) (p : Nat) (L : List Int) (h b n : Nat) (s : Ms) : Th where
  at_ w U := ∃ X, U = mB m q S h b ++ X ∧ TAt w X t 512 s.T ∧ (∀ i ∈ X, i ∉ mB m q S h b) ∧ GuIn w q S p L h b n s.W ∧ Blk w m 91 #[.pointer (some ⟨t, 0, none⟩), .pointer (some ⟨q, 0, none⟩), .int .i64 s.r] ∧ OkM n L s ∧ m ∉ b :: q :: h :: S ∧ ErrIn w0
  lt := by
    rintro w U ⟨X, rfl, ht, _, g, st, _⟩ i hi
    rw [List.mem_append, mB, List.mem_cons] at hi
    rcases hi with (rfl | hi) | hi
    · exact st.lt
    · exact g.lt i hi
    · exact ht.lt i hi
  chg := by
    rintro w w' U T ⟨X, rfl, ht, hx, g, st, ok, ms, er⟩ hc hn
    have hm : ∀ i ∈ mB m q S h b, i ∉ T := fun i hi => hn i (by simp [hi])
    exact ⟨X, rfl, ht.chg hc (fun i hi => hn i (by simp [hi])), hx, g.other hc (hm q (by simp [mB])) (fun i hi => hm i (by simp [mB, hi])) (hm h (by simp [mB])) (hm b (by simp [mB])), hc.blk st (hm m (by simp [mB])), ok, ms, er⟩
section
variable {w0 w w' : World} {l : List Th} {m t q p h b n : Nat} {S : List Nat} {L : List Int} {s s1 : Ms}
theorem modT.to {U F : List Nat} (h0 : Chg [] w0 w) (H : (modT w0 m t q S p L h b n s).at_ w U) (hU : ∀ i ∈ U, w0.heap.size ≤ i ∧ i ∉ F) (hF : ∀ i ∈ F, i < w.heap.size) : ModB w0 F w m t q S p L h b n s := by
  have hlt := (modT w0 m t q S p L h b n s).lt H
  obtain ⟨X, rfl, ht, hx, g, st, ok, ms, er⟩ := H
  refine ⟨⟨h0, fun i hi => ?_, X, ht, fun i hi => ⟨(hU i (by simp [hi])).1, fun hm => ?_⟩⟩, g, st, er, ok, (hU m (by simp [mB])).1, (hU b (by simp [mB])).1, fun i hi => (hU i (by simp [hi])).2, ms⟩
  · rw [List.mem_append] at hi
    rcases hi with hi | hi
    · exact hlt i (by simp [hi])
    · exact hF i hi
  · rw [List.mem_append] at hm
    rcases hm with hm | hm
    · exact hx i hi hm
    · exact (hU i (by simp [hi])).2 hm
theorem modT.of {F : List Nat} (H : ModB w0 F w m t q S p L h b n s) : ∃ U, (modT w0 m t q S p L h b n s).at_ w U ∧ (∀ i ∈ U, i ∈ mB m q S h b ∨ i ∉ F) := by
  obtain ⟨⟨_, _, X, ht, hx⟩, g, st, er, ok, _, _, ap, ms⟩ := H
  refine ⟨mB m q S h b ++ X, ⟨X, rfl, ht, fun i hi hm => (hx i hi).2 (by simp [hm]), g, st, ok, ms, er⟩, fun i hi => ?_⟩
  rw [List.mem_append] at hi
  exact hi.imp id fun hi hm => (hx i hi).2 (by simp [hm])
/-- a call of a model: its contract holds whatever lies beside; the next thing may be looked at meanwhile -/
theorem SepC.mod2 {f : FuncId} {args : Array Value} {v : Value} {prog : Program} {Q : Th} (H : SepC w0 w (modT w0 m t q S p L h b n s :: Q :: l))
    (hc : ∀ F, ModB w0 F w m t q S p L h b n s → (∀ w', Far F w w' → ∃ T, Q.at_ w' T) → Calls prog f args w fun e w' => e = .returned v ∧ ModB w0 F w' m t q S p L h b n s1 ∧ Far F w w') :
    Calls prog f args w fun e w' => e = .returned v ∧ SepC w0 w' (modT w0 m t q S p L h b n s1 :: Q :: l) := by
  have h0 := H.1
  refine H.callV fun U V hU hn hV => ?_
  have hB := modT.to (F := (List.range w.heap.size).filter fun i => decide (i ∉ U)) h0 hU (fun i hi => ⟨(hn i hi).1, by simp [hi]⟩) (by simp; intro i hi _; exact hi)
  obtain ⟨T, V2, rfl, hQ, _, _⟩ := hV
  refine (hc _ hB (fun w' ⟨X, hX, hXF⟩ => ⟨T, Q.chg hQ hX fun i hi hm => hXF i hm (by simp [Q.lt hQ i hi]; exact fun hm2 => (hn i hm2).2 (by simp [hi]))⟩)).mono fun e w' ⟨he, H1, X, hX, hXF⟩ => ⟨he, ?_⟩
  obtain ⟨U2, hU2, hd⟩ := modT.of H1
  have hm : ∀ i ∈ mB m q S h b, i ∈ U := by obtain ⟨X, rfl, _⟩ := hU; intro i hi; simp [hi]
  refine ⟨U2, hU2, hX.weak fun i hl hi => Decidable.byContradiction fun hne => hXF i hi (by simp [hl, hne]), fun i hi => ?_⟩
  by_cases hiU : i ∈ U
  · exact .inl hiU
  · rcases hd i hi with h1 | h1
    · exact absurd (hm i h1) hiU
    · right
      apply Decidable.byContradiction
      intro hlt
      exact h1 (by simp [hiU]; omega)
/-- nothing at all, as a thing -/
def nilT : Th := ⟨fun _ S => S = [], fun h i hi => by rw [h] at hi; simp at hi, fun h _ _ => h⟩
theorem SepC.mod {f : FuncId} {args : Array Value} {v : Value} {prog : Program} (H : SepC w0 w (modT w0 m t q S p L h b n s :: l))
    (hc : ∀ F, ModB w0 F w m t q S p L h b n s → Calls prog f args w fun e w' => e = .returned v ∧ ModB w0 F w' m t q S p L h b n s1 ∧ Far F w w') :
    Calls prog f args w fun e w' => e = .returned v ∧ SepC w0 w' (modT w0 m t q S p L h b n s1 :: l) := by
  have H1 : SepC w0 w (modT w0 m t q S p L h b n s :: nilT :: l) := H.under fun V hV => ⟨V, ⟨[], V, rfl, rfl, by simp, hV⟩, fun _ hi => hi⟩
  exact (H1.mod2 fun F hF _ => hc F hF).mono fun e w' ⟨he, h⟩ => ⟨he, h.under fun V hV => by obtain ⟨T, V2, rfl, hT, _, hr⟩ := hV; exact ⟨V2, hr, fun i hi => by simp [hi]⟩⟩
/-- what only reads a model -/
theorem SepC.modB (H : SepC w0 w (modT w0 m t q S p L h b n s :: l)) : ModB w0 [] w m t q S p L h b n s := by
  obtain ⟨U, hU, hn⟩ := H.fst
  exact modT.to H.1 hU (fun i hi => ⟨hn i hi, by simp⟩) (by simp)
end

/-! a guest's memory that no model has yet -/
def gueT (q : Nat) (S : List Nat) (p : Nat) (L : List Int) (h b n : Nat) (W : List Int) : Th := ⟨fun w U => U = b :: q :: h :: S ∧ GuIn w q S p L h b n W, fun h i hi => h.2.lt i (by rw [← h.1]; exact hi),
  fun h hc hn => ⟨h.1, h.2.other hc (hn _ (by rw [h.1]; simp)) (fun i hi => hn i (by rw [h.1]; simp [hi])) (hn _ (by rw [h.1]; simp)) (hn _ (by rw [h.1]; simp))⟩⟩
/-- all words of a memory, as a list of one's own -/
def sluT (g n : Nat) (xs : List Int) : Th := ⟨fun w U => U = [g] ∧ SlU w (some ⟨g, 0, none⟩) n xs ∧ g < w.heap.size, fun h i hi => by rw [h.1] at hi; simp at hi; rw [hi]; exact h.2.2,
  fun h hc hn => ⟨h.1, h.2.1.chg hc (fun b o e => by injection e with e; injection e with e; rw [← e]; exact hn g (by rw [h.1]; simp)), Nat.lt_of_lt_of_le h.2.2 hc.size⟩⟩
/-- hits, as a list of one's own -/
def hitT (v : Value) (T : List Ht) : Th := ⟨fun w U => U = v.ownBlock.toList ∧ OwnH w v T, fun h i hi => h.2.lt i (by rw [← h.1]; exact hi), fun h hc hn => ⟨h.1, h.2.chg hc (fun g hg => hn g (by rw [h.1]; exact hg))⟩⟩
section
variable {w0 w w' : World} {l : List Th} {m t q p h b n : Nat} {S : List Nat} {L : List Int} {s s1 : Ms}
theorem SepC.hits {v : Value} {T : List Ht} (H : SepC w0 w (hitT v T :: l)) : OwnH w v T := by
  obtain ⟨_, h, _⟩ := H.fst; exact h.2
set_option maxHeartbeats 1000000 in
theorem SepC.newMod (r : Int) {W : List Int} (hE : ErrIn w0) (hW : WdW W) (H : SepC w0 w (gueT q S p L h b n W :: l)) :
    Calls Tryz.prog 12 #[.pointer (some ⟨q, 0, none⟩), .int .i64 r] w fun e w' => ∃ m t, e = .returned (.pointer (some ⟨m, 0, none⟩)) ∧ SepC w0 w' (modT w0 m t q S p L h b n ⟨W, r, []⟩ :: l) := by
  have hT := TNew_in 512 w (by omega) (by omega)
  go_enter Tryz.func12, Tryz.ntmps12
  go_wp2_with fail
  refine hT.mono ?_; rintro e w1 ⟨rfl, k1, h3⟩
  go_wp2_with fail
  go_ret
  refine ⟨w1.heap.size, w.heap.size, rfl, H.step (P' := modT w0 w1.heap.size w.heap.size q S p L h b n ⟨W, r, []⟩) (S := b :: q :: h :: S) (fun _ h => h.1) ((k1.alloc _).weak (by simp)) (S' := mB w1.heap.size q S h b ++ [w.heap.size]) ?_ ?_⟩
  · obtain ⟨U, ⟨hU, g⟩, _⟩ := H.fst
    have hlt := g.lt
    have h4 := h3.lt _ (List.mem_singleton.2 rfl)
    have h5 := k1.size
    refine ⟨[w.heap.size], rfl, h3.self ((Chg.refl [] w1).alloc _), fun i hi hm => ?_, g.self (k1.alloc _), Blk.new _ _ _, ⟨hW, g.hm.len, by simp⟩, fun hm => ?_, hE⟩
    · simp only [List.mem_singleton] at hi
      subst hi
      rw [mB, List.mem_cons] at hm
      rcases hm with hm | hm
      · omega
      · have := hlt _ hm; omega
    · have := hlt _ hm; omega
  · intro i hi
    have h5 := k1.size
    rw [mB, List.cons_append, List.mem_cons, List.mem_append, List.mem_singleton] at hi
    rcases hi with rfl | hi | rfl
    · exact .inr h5
    · exact .inl hi
    · exact .inr (Nat.le_refl _)
theorem SepC.words (H : SepC w0 w (modT w0 m t q S p L h b n s :: l)) : Calls Tryz.prog 24 #[.pointer (some ⟨q, 0, none⟩)] w fun e w' =>
    ∃ g c, e = .returned (.slice (some ⟨g, 0, none⟩) (8 * L.length) c) ∧ SepC w0 w' (sluT g (8 * L.length) (allG s.W L) :: modT w0 m t q S p L h b n s :: l) ∧ 8 * L.length ≤ c := by
  have hB := H.modB
  have hl := hB.gu.ok
  refine (GuAll_at q S p L h b n s.W w hB.gu).mono ?_; rintro e w' ⟨A, c, rfl, hc, ho, hg⟩
  obtain ⟨g, c', e, hle, _⟩ := ho.pos_ (by rw [allG_len]; omega)
  injection e with e1 e2 e3
  subst e1; subst e3
  have hgg := hg g (by simp [Value.ownBlock])
  have hlt := ho.lt g (by simp [Value.ownBlock])
  rw [allG_len] at hle
  exact ⟨g, _, rfl, H.lay (S := [g]) hc ⟨rfl, ownI_slu ho, hlt⟩ (by simpa using hgg), hle⟩
end

end Go.Proofs.YtgebfagiomcmbaaGreatDoor
