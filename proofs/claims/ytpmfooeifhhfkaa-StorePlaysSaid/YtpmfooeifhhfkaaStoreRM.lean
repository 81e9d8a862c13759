/-
  The document's store as a thing that lies beside others; its calls, in these words.
-/
import Derived.Test.YtpmfooeifhhfkaaStoreRL
import Derived.Test.YtpmfooeifhhfkaaStoreO
namespace Go.Proofs.Ytpmfooeifhhfkaa
open Go.RowKit Go.Maps

/-- its blocks -/
def rS (q rp rb : Nat) (LA : Option Addr) (FS : List Nat) (R : List (Option Addr × Nat)) : List Nat := rb :: rp :: q :: (lB LA ++ FS ++ R.flatMap fun r => lB r.1)
theorem lB_own (A : Option Addr) (n c : Nat) : (Value.slice A n c).ownBlock.toList = lB A := by cases A <;> rfl
/-- a document's store, and its host -/
def rstT (q rp rb n a m : Nat) (s : Sr) : Th where
  at_ w U := ∃ fp LA lc R FS, U = rS q rp rb LA FS R ∧ RStX w q rp rb fp n a m s LA lc R FS ∧ SrOk n a m s
  lt := by
    rintro w U ⟨fp, LA, lc, R, FS, rfl, h, ok⟩ i hi
    simp only [rS, List.mem_cons, List.mem_append, List.mem_flatMap] at hi
    rcases hi with rfl | rfl | rfl | (hi | hi) | ⟨r, hr, hi⟩
    · exact h.hm.ws.lt
    · exact h.hm.st.lt
    · exact h.st.lt
    · exact h.hl.lt i (by rw [lB_own]; exact hi)
    · exact h.hf.lt i hi
    · obtain ⟨j, hj, e⟩ := List.getElem_of_mem hr
      have hlen := h.len
      have := (h.hs j _ r (List.getElem?_eq_getElem (by omega)) (by rw [← e]; exact List.getElem?_eq_getElem hj)).lt i (by rw [lB_own]; exact hi)
      exact this
  chg := by
    rintro w w' U T ⟨fp, LA, lc, R, FS, rfl, h, ok⟩ hc hn
    have hlen := h.len
    refine ⟨fp, LA, lc, R, FS, rfl, ⟨hc.blk h.st (hn q (by simp [rS])), h.hm.chg hc (hn rp (by simp [rS])) (hn rb (by simp [rS])), h.hf.chg hc (fun i hi => hn i (by simp [rS, hi])), h.hl.chg hc (fun g hg => hn g (by rw [lB_own] at hg; simp [rS, hg])), h.len, fun j p r hp hr => (h.hs j p r hp hr).chg hc fun g hg => hn g ?_⟩, ok⟩
    rw [lB_own] at hg
    simp only [rS, List.mem_cons, List.mem_append, List.mem_flatMap]
    exact .inr (.inr (.inr (.inr ⟨r, List.mem_of_getElem? hr, hg⟩)))
/-- a document's host that no store is in yet -/
def rhoT (rp rb n : Nat) (W : List Int) : Th := ⟨fun w U => U = [rb, rp] ∧ RMemAt w rp rb n W, fun h i hi => by
  rw [h.1] at hi; simp only [List.mem_cons, List.not_mem_nil, or_false] at hi
  rcases hi with rfl | rfl
  · exact h.2.ws.lt
  · exact h.2.st.lt, fun h hc hn => ⟨h.1, h.2.chg hc (hn _ (by rw [h.1]; simp)) (hn _ (by rw [h.1]; simp))⟩⟩

section
variable {w0 w w' : World} {l : List Th} {q rp rb n a m : Nat} {s : Sr} {W : List Int}
theorem SepC.rstx (H : SepC w0 w (rstT q rp rb n a m s :: l)) : ∃ fp LA lc R FS, RStX w q rp rb fp n a m s LA lc R FS := by
  obtain ⟨_, ⟨fp, LA, lc, R, FS, _, h, _⟩, _⟩ := H.fst
  exact ⟨fp, LA, lc, R, FS, h⟩
theorem SepC.rok (H : SepC w0 w (rstT q rp rb n a m s :: l)) : SrOk n a m s := by
  obtain ⟨_, ⟨_, _, _, _, _, _, _, ok⟩, _⟩ := H.fst
  exact ok
theorem SepC.rmem (H : SepC w0 w (rstT q rp rb n a m s :: l)) : RMemAt w rp rb n s.W := by
  obtain ⟨_, _, _, _, _, h⟩ := H.rstx; exact h.hm
theorem SepC.rhmem (H : SepC w0 w (rhoT rp rb n W :: l)) : RMemAt w rp rb n W := by
  obtain ⟨_, ⟨_, h⟩, _⟩ := H.fst; exact h
/-- a call that turns a store alone -/
theorem SepC.rCall {s1 : Sr} {f : FuncId} {args : Array Value} {u : Value} {prog : Program} (H : SepC w0 w (rstT q rp rb n a m s :: l)) (ok : SrOk n a m s → SrOk n a m s1)
    (hc : ∀ fp LA lc R FS, RStX w q rp rb fp n a m s LA lc R FS → Calls prog f args w (RGo q rp rb fp n a m s1 LA R FS u w)) :
    Calls prog f args w fun e w' => e = .returned u ∧ SepC w0 w' (rstT q rp rb n a m s1 :: l) := by
  refine H.callV fun U V hU hn hV => ?_
  obtain ⟨fp, LA, lc, R, FS, rfl, h, hok⟩ := hU
  refine (hc fp LA lc R FS h).mono fun _ _ ⟨he, LA', lc', R', FS', h', y, hg, hr⟩ => ⟨he, rS q rp rb LA' FS' R', ⟨fp, LA', lc', R', FS', rfl, h', ok hok⟩, y.weak (fun i _ hi => ?_), fun i hi => ?_⟩
  · simp only [rS, List.mem_cons, List.mem_append] at hi ⊢
    rcases hi with hi | hi | hi | hi <;> simp [hi]
  · simp only [rS, List.mem_cons, List.mem_append, List.mem_flatMap] at hi hg ⊢
    rcases hi with hi | hi | hi | hi | ⟨r, hr', hi⟩
    · exact .inl (.inl hi)
    · exact .inl (.inr (.inl hi))
    · exact .inl (.inr (.inr (.inl hi)))
    · exact (hg i hi).imp (fun h => .inr (.inr (.inr (.inl h)))) id
    · rcases hr r hr' with h1 | ⟨g, e, h1⟩
      · exact .inl (.inr (.inr (.inr (.inr ⟨r, h1, hi⟩))))
      · rw [e] at hi; simp [lB] at hi; subst hi; exact .inr h1
theorem SepC.rNew (H : SepC w0 w (rhoT rp rb n W :: l)) (hB : a + m ≤ n) :
    Calls Try.prog 14 #[.pointer (some ⟨rp, 0, none⟩), .int .i64 a, .int .i64 m] w fun e w' => ∃ q, e = .returned (.pointer (some ⟨q, 0, none⟩)) ∧ SepC w0 w' (rstT q rp rb n a m ⟨[], dnk a m, W⟩ :: l) := by
  have hM := H.rhmem
  refine (RNew14_yes rp rb n W a m w hM hB).mono fun _ _ ⟨q, fp, FS, he, hs, y, hq, hg⟩ => ⟨q, he, ?_⟩
  refine H.step (P' := rstT q rp rb n a m ⟨[], dnk a m, W⟩) (S := [rb, rp]) (S' := rS q rp rb none FS []) (fun _ h => h.1) (y.weak (by simp)) ⟨fp, none, 0, [], FS, rfl, hs, SrOk.new hB hM.le hM.len⟩ fun i hi => ?_
  simp only [rS, lB, List.mem_cons, List.mem_append, Option.map_none, Option.toList_none, List.flatMap_nil, List.not_mem_nil, or_false, false_or] at hi
  rcases hi with hi | hi | hi | hi
  · exact .inl (by simp [hi])
  · exact .inl (by simp [hi])
  · exact .inr (hi ▸ hq)
  · exact .inr (hg i hi)
theorem SepC.rMake (H : SepC w0 w (rstT q rp rb n a m s :: l)) (k : Ky) : Calls Try.prog 50 #[.pointer (some ⟨q, 0, none⟩), .agg k.cs] w fun e w' => e = .returned (.tuple #[.int .i64 (makeV s k), .bool (makeB s k)]) ∧ SepC w0 w' (rstT q rp rb n a m (makeS n s k) :: l) :=
  H.rCall (fun ok => ok.make k) fun _ _ _ _ _ h => RMake_any k w h H.rok
theorem SepC.rChild (H : SepC w0 w (rstT q rp rb n a m s :: l)) (p i c : Int) (r : Rg) : Calls Try.prog 51 #[.pointer (some ⟨q, 0, none⟩), .int .i64 p, .int .i64 i, .int .i64 c, .agg r.cs] w fun e w' => e = .returned (.bool (childB s p i c)) ∧ SepC w0 w' (rstT q rp rb n a m (childS n s p i c r) :: l) :=
  H.rCall (fun ok => ok.child p i c r) fun _ _ _ _ _ h => (RChild_any p i c r w h H.rok).mono fun _ _ h => h.go
theorem SepC.rLeaf (H : SepC w0 w (rstT q rp rb n a m s :: l)) (p i g x : Int) (r : Rg) : Calls Try.prog 52 #[.pointer (some ⟨q, 0, none⟩), .int .i64 p, .int .i64 i, .int .i64 g, .int .i64 x, .agg r.cs] w fun e w' => e = .returned (.bool (leafB n s p i x)) ∧ SepC w0 w' (rstT q rp rb n a m (leafS n s p i g x r) :: l) :=
  H.rCall (fun ok => ok.leaf p i g x r) fun _ _ _ _ _ h => (RLeaf_any p i g x r w h H.rok).mono fun _ _ h => h.go
theorem SepC.rClear (H : SepC w0 w (rstT q rp rb n a m s :: l)) (p i : Int) : Calls Try.prog 53 #[.pointer (some ⟨q, 0, none⟩), .int .i64 p, .int .i64 i] w fun e w' => e = .returned (.bool (clearB s p i)) ∧ SepC w0 w' (rstT q rp rb n a m (clearS n s p i) :: l) :=
  H.rCall (fun ok => ok.clear p i) fun _ _ _ _ _ h => (RClear_any p i w h H.rok).mono fun _ _ h => h.go
theorem SepC.rDrop (H : SepC w0 w (rstT q rp rb n a m s :: l)) (p : Int) : Calls Try.prog 54 #[.pointer (some ⟨q, 0, none⟩), .int .i64 p] w fun e w' => e = .returned (.bool (dropB s p)) ∧ SepC w0 w' (rstT q rp rb n a m (dropS s p) :: l) :=
  H.rCall (fun ok => ok.drop p) fun _ _ _ _ _ h => RDrop_any p w h H.rok
theorem SepC.rFind (H : SepC w0 w (rstT q rp rb n a m s :: l)) (k : Ky) : Calls Try.prog 18 #[.pointer (some ⟨q, 0, none⟩), .agg k.cs] w fun e w' => e = .returned (.tuple #[.int .i64 (findV s.L k), .bool (pgOf s.L k).isSome]) ∧ Chg [] w w' := by
  obtain ⟨_, _, _, _, _, h⟩ := H.rstx; exact RFind_any k w h H.rok.le256
theorem SepC.rKey (H : SepC w0 w (rstT q rp rb n a m s :: l)) (p : Int) : Calls Try.prog 20 #[.pointer (some ⟨q, 0, none⟩), .int .i64 p] w fun e w' => e = .returned (.tuple #[.agg (keyV s.L p).cs, .bool (pgAt s.L p).isSome]) ∧ Chg [] w w' := by
  obtain ⟨_, _, _, _, _, h⟩ := H.rstx; exact RKey_any p w h H.rok.le256
theorem SepC.rSlot (H : SepC w0 w (rstT q rp rb n a m s :: l)) (p i : Int) : Calls Try.prog 22 #[.pointer (some ⟨q, 0, none⟩), .int .i64 p, .int .i64 i] w fun e w' => e = .returned (.tuple #[.agg (slotV s.L p i).cl.toArray, .bool (slotP s.L p i).isSome]) ∧ Chg [] w w' := by
  obtain ⟨_, _, _, _, _, h⟩ := H.rstx; exact RSlot_any p i w h H.rok.le256 H.rok.eight
theorem SepC.rLeft (H : SepC w0 w (rstT q rp rb n a m s :: l)) : Calls Try.prog 24 #[.pointer (some ⟨q, 0, none⟩)] w fun e w' => e = .returned (.int .i64 s.fr.length) ∧ Chg [] w w' := by
  obtain ⟨_, _, _, _, _, h⟩ := H.rstx
  have := H.rok.cnt; have := H.rok.le; have := H.rok.n256
  exact RLeft14_any w h (by omega)
theorem SepC.rParents (H : SepC w0 w (rstT q rp rb n a m s :: l)) (p : Int) : Calls Try.prog 32 #[.pointer (some ⟨q, 0, none⟩), .int .i64 p] w fun e w' => ∃ A c, e = .returned (.slice A (toldP 1 p s.L).length c) ∧ SepC w0 w' (ownT atE 70 (.slice A (toldP 1 p s.L).length c) (toldP 1 p s.L) :: rstT q rp rb n a m s :: l) := by
  obtain ⟨_, _, _, _, _, h⟩ := H.rstx
  exact (Rparents_any p w h H.rok).mono fun _ _ ⟨A, c, he, ho, hg, y⟩ => ⟨A, c, he, H.lay y ⟨rfl, ho⟩ hg⟩
theorem SepC.rLeaves (H : SepC w0 w (rstT q rp rb n a m s :: l)) (p : Int) : Calls Try.prog 34 #[.pointer (some ⟨q, 0, none⟩), .int .i64 p] w fun e w' => ∃ A c, e = .returned (.slice A (toldP 2 p s.L).length c) ∧ SepC w0 w' (ownT atE 70 (.slice A (toldP 2 p s.L).length c) (toldP 2 p s.L) :: rstT q rp rb n a m s :: l) := by
  obtain ⟨_, _, _, _, _, h⟩ := H.rstx
  exact (Rleaves_any p w h H.rok).mono fun _ _ ⟨A, c, he, ho, hg, y⟩ => ⟨A, c, he, H.lay y ⟨rfl, ho⟩ hg⟩
theorem SepC.rAll (H : SepC w0 w (rstT q rp rb n a m s :: l)) : Calls Try.prog 27 #[.pointer (some ⟨q, 0, none⟩)] w fun e w' => ∃ A c, e = .returned (.slice A (s.L.map Pg.f).length c) ∧ SepC w0 w' (ownT (numE .i64) 3 (.slice A (s.L.map Pg.f).length c) (s.L.map Pg.f) :: rstT q rp rb n a m s :: l) := by
  obtain ⟨_, _, _, _, _, h⟩ := H.rstx
  exact (RAll14_any w h H.rok.le256).mono fun _ _ ⟨A, c, he, ho, hg, y⟩ => ⟨A, c, he, H.lay y ⟨rfl, ho⟩ hg⟩
theorem SepC.rOf (H : SepC w0 w (rstT q rp rb n a m s :: l)) (g : Int) : Calls Try.prog 29 #[.pointer (some ⟨q, 0, none⟩), .int .i64 g] w fun e w' => ∃ A c, e = .returned (.slice A (ofP s.L g).length c) ∧ SepC w0 w' (ownT (numE .i64) 3 (.slice A (ofP s.L g).length c) (ofP s.L g) :: rstT q rp rb n a m s :: l) := by
  obtain ⟨_, _, _, _, _, h⟩ := H.rstx
  exact (ROf14_any g w h H.rok.le256).mono fun _ _ ⟨A, c, he, ho, hg, y⟩ => ⟨A, c, he, H.lay y ⟨rfl, ho⟩ hg⟩
set_option maxRecDepth 100000 in
set_option maxHeartbeats 8000000 in
theorem SepC.rPlay (H : SepC w0 w (rstT q rp rb n a m s :: l)) (o : Ost) :
    Calls Try.prog 16 #[.pointer (some ⟨q, 0, none⟩), .agg o.cs] w fun e w' => e = .returned (.tuple #[.int .i64 (playV s o), .bool (playB n s o)]) ∧ SepC w0 w' (rstT q rp rb n a m (playS n s o) :: l) := by
  obtain ⟨wh, k, p, i, t, h, r⟩ := o
  obtain ⟨kg, kl, kr⟩ := k
  obtain ⟨rw_, ru, rx⟩ := r
  unfold Ost.cs playS playV playB
  simp only at *
  have y0 := (Chg.refl [] w).alloc (.cells #[.int .i64 wh, .int .i64 kg, .int .i64 kl, .int .i64 kr, .int .i64 p, .int .i64 i, .int .i64 t, .int .i64 h, .bool rw_, .bool ru, .bool rx] 39)
  have H1 := H.new y0
  have hM := H1.rMake ⟨kg, kl, kr⟩
  have hC := H1.rChild p i t ⟨rw_, ru, rx⟩
  have hL := H1.rLeaf p i t h ⟨rw_, ru, rx⟩
  have hX := H1.rClear p i
  have hD := H1.rDrop p
  simp only [Ky.cs, Rg.cs] at hM hC hL
  clear H H1 y0
  by_cases c0 : wh = 0
  · subst c0
    simp only [true_or, if_true]
    clear hC hL hX hD
    go_enter Try.func16, Try.ntmps16
    go_wp2_with fail
    refine hM.mono ?_; rintro e w2 ⟨rfl, H2⟩
    go_wp2_with fail
    go_ret2
    exact ⟨rfl, H2⟩
  by_cases c1 : wh = 1
  · subst c1
    simp only [or_true, if_true]
    clear hC hL hX hD
    go_enter Try.func16, Try.ntmps16
    go_wp2_with fail
    refine hM.mono ?_; rintro e w2 ⟨rfl, H2⟩
    go_wp2_with fail
    go_ret2
    exact ⟨rfl, H2⟩
  have c01 : ¬ (wh = 0 ∨ wh = 1) := by omega
  have b0 : (wh == 0) = false := by simpa using c0
  have b1 : (wh == 1) = false := by simpa using c1
  rw [if_neg c01, if_neg c01, if_neg c01]
  clear hM c01 c0 c1
  by_cases c2 : wh = 2
  · subst c2
    simp only [true_or, if_true]
    clear hL hX hD
    go_enter Try.func16, Try.ntmps16
    go_wp2_with fail
    refine hC.mono ?_; rintro e w2 ⟨rfl, H2⟩
    go_wp2_with fail
    go_ret2
    exact ⟨rfl, H2⟩
  by_cases c3 : wh = 3
  · subst c3
    simp only [or_true, if_true]
    clear hL hX hD
    go_enter Try.func16, Try.ntmps16
    go_wp2_with fail
    refine hC.mono ?_; rintro e w2 ⟨rfl, H2⟩
    go_wp2_with fail
    go_ret2
    exact ⟨rfl, H2⟩
  have c01 : ¬ (wh = 2 ∨ wh = 3) := by omega
  have b2 : (wh == 2) = false := by simpa using c2
  have b3 : (wh == 3) = false := by simpa using c3
  rw [if_neg c01, if_neg c01]
  clear hC c01 c2 c3
  by_cases c2 : wh = 4
  · subst c2
    simp only [true_or, if_true]
    clear hX hD
    go_enter Try.func16, Try.ntmps16
    go_wp2_with fail
    refine hL.mono ?_; rintro e w2 ⟨rfl, H2⟩
    go_wp2_with fail
    go_ret2
    exact ⟨rfl, H2⟩
  by_cases c3 : wh = 5
  · subst c3
    simp only [or_true, if_true]
    clear hX hD
    go_enter Try.func16, Try.ntmps16
    go_wp2_with fail
    refine hL.mono ?_; rintro e w2 ⟨rfl, H2⟩
    go_wp2_with fail
    go_ret2
    exact ⟨rfl, H2⟩
  have c01 : ¬ (wh = 4 ∨ wh = 5) := by omega
  have b4 : (wh == 4) = false := by simpa using c2
  have b5 : (wh == 5) = false := by simpa using c3
  rw [if_neg c01, if_neg c01]
  clear hL c01 c2 c3
  by_cases c2 : wh = 6
  · subst c2
    simp only [if_true]
    clear hD
    go_enter Try.func16, Try.ntmps16
    go_wp2_with fail
    refine hX.mono ?_; rintro e w2 ⟨rfl, H2⟩
    go_wp2_with fail
    go_ret2
    exact ⟨rfl, H2⟩
  have b6 : (wh == 6) = false := by simpa using c2
  rw [if_neg c2, if_neg c2]
  clear hX c2
  go_enter Try.func16, Try.ntmps16
  go_wp2_with fail
  refine hD.mono ?_; rintro e w2 ⟨rfl, H2⟩
  go_wp2_with fail
  go_ret2
  exact ⟨rfl, H2⟩
end

end Go.Proofs.Ytpmfooeifhhfkaa
