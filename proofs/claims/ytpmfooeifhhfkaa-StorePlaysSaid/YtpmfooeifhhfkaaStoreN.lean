/-
  A store as a thing that lies beside others; its calls, in these words.
-/
import Derived.Test.YtpmfooeifhhfkaaStoreM
import Derived.Test.YtpmfooeifhhfkaaSepG
namespace Go.Proofs.Ytpmfooeifhhfkaa
open Go.RowKit Go.Maps

/-- a store, and its host -/
def stT (q hp hb n a m : Nat) (s : Sr) : Th where
  at_ w U := ∃ S, U = hb :: hp :: S ∧ StIn w S q hp hb n a m s ∧ SrOk n a m s
  lt := by
    rintro w U ⟨S, rfl, h, _⟩ i hi
    simp only [List.mem_cons] at hi
    rcases hi with rfl | rfl | hi
    · exact h.mem.ws.lt
    · exact h.mem.st.lt
    · exact h.lt i hi
  chg := by
    rintro w w' U T ⟨S, rfl, h, ok⟩ hc hn
    exact ⟨S, rfl, h.chg hc (fun i hi => hn i (by simp [hi])) (hn hp (by simp)) (hn hb (by simp)), ok⟩
/-- a host that no store is in yet -/
def hoT (hp hb n : Nat) (W : List Int) : Th := ⟨fun w U => U = [hb, hp] ∧ MemAt w hp hb n W, fun h i hi => by
  rw [h.1] at hi; simp only [List.mem_cons, List.not_mem_nil, or_false] at hi
  rcases hi with rfl | rfl
  · exact h.2.ws.lt
  · exact h.2.st.lt, fun h hc hn => ⟨h.1, hc.blk h.2.st (hn _ (by rw [h.1]; simp)), hc.blk h.2.ws (hn _ (by rw [h.1]; simp)), h.2.len, h.2.pos, h.2.le⟩⟩

section
variable {w0 w w' : World} {l : List Th} {q hp hb n a m : Nat} {s : Sr} {W : List Int}
theorem SepC.stx (H : SepC w0 w (stT q hp hb n a m s :: l)) : ∃ fp mp FS v B, StX w q hp hb n a m s fp mp FS v B := by
  obtain ⟨_, ⟨S, _, ⟨fp, mp, FS, v, B, h, _⟩, _⟩, _⟩ := H.fst
  exact ⟨fp, mp, FS, v, B, h⟩
theorem SepC.sok (H : SepC w0 w (stT q hp hb n a m s :: l)) : SrOk n a m s := by
  obtain ⟨_, ⟨S, _, _, ok⟩, _⟩ := H.fst
  exact ok
theorem SepC.smem (H : SepC w0 w (stT q hp hb n a m s :: l)) : MemAt w hp hb n s.W := by
  obtain ⟨_, _, _, _, _, h⟩ := H.stx; exact h.hm
theorem SepC.hmem (H : SepC w0 w (hoT hp hb n W :: l)) : MemAt w hp hb n W := by
  obtain ⟨_, ⟨_, h⟩, _⟩ := H.fst; exact h
/-- a call that turns a store alone -/
theorem SepC.stCall {s1 : Sr} {f : FuncId} {args : Array Value} {u : Value} {prog : Program} (H : SepC w0 w (stT q hp hb n a m s :: l)) (ok : SrOk n a m s → SrOk n a m s1)
    (hc : ∀ fp mp FS v B, StX w q hp hb n a m s fp mp FS v B → Calls prog f args w fun e w' => e = .returned u ∧ ∃ FS' v' B', StX w' q hp hb n a m s1 fp mp FS' v' B' ∧ Chg (hb :: stS q mp FS v B) w w' ∧ ∀ i ∈ stS q mp FS' v' B', i ∈ stS q mp FS v B ∨ w.heap.size ≤ i) :
    Calls prog f args w fun e w' => e = .returned u ∧ SepC w0 w' (stT q hp hb n a m s1 :: l) := by
  refine H.callV fun U V hU hn hV => ?_
  obtain ⟨S, rfl, ⟨fp, mp, FS, v, B, h, rfl⟩, hok⟩ := hU
  refine (hc fp mp FS v B h).mono fun _ _ ⟨he, FS', v', B', h', y, hg⟩ => ⟨he, hb :: hp :: stS q mp FS' v' B', ⟨_, rfl, ⟨fp, mp, FS', v', B', h', rfl⟩, ok hok⟩, y.weak (fun i _ hi => ?_), fun i hi => ?_⟩
  · simp only [List.mem_cons] at hi ⊢
    rcases hi with hi | hi
    · exact .inl hi
    · exact .inr (.inr hi)
  · simp only [List.mem_cons] at hi ⊢
    rcases hi with hi | hi | hi
    · exact .inl (.inl hi)
    · exact .inl (.inr (.inl hi))
    · exact (hg i hi).imp (fun h => .inr (.inr h)) id
theorem SepC.sNew (H : SepC w0 w (hoT hp hb n W :: l)) (hB : a + m ≤ n) :
    Calls Try.prog 13 #[.pointer (some ⟨hp, 0, none⟩), .int .i64 a, .int .i64 m] w fun e w' => ∃ q, e = .returned (.pointer (some ⟨q, 0, none⟩)) ∧ SepC w0 w' (stT q hp hb n a m ⟨[], dnk a m, W⟩ :: l) := by
  refine (Snew_yes hp hb n W a m w H.hmem hB).mono fun _ _ ⟨q, S, he, hs, ok, y, hg⟩ => ⟨q, he, ?_⟩
  refine H.step (P' := stT q hp hb n a m ⟨[], dnk a m, W⟩) (S := [hb, hp]) (S' := hb :: hp :: S) (fun _ h => h.1) (y.weak (by simp)) ⟨S, rfl, hs, ok⟩ fun i hi => ?_
  simp only [List.mem_cons] at hi
  rcases hi with hi | hi | hi
  · exact .inl (by simp [hi])
  · exact .inl (by simp [hi])
  · exact .inr (hg i hi)
theorem SepC.sMake (H : SepC w0 w (stT q hp hb n a m s :: l)) (k : Ky) : Calls Try.prog 42 #[.pointer (some ⟨q, 0, none⟩), .agg k.cs] w fun e w' => e = .returned (.tuple #[.int .i64 (makeV s k), .bool (makeB s k)]) ∧ SepC w0 w' (stT q hp hb n a m (makeS n s k) :: l) :=
  H.stCall (fun ok => ok.make k) fun _ _ FS _ _ h => (Smake_any k w h H.sok).mono fun _ _ ⟨he, v', B', h', y, hg⟩ => ⟨he, FS, v', B', h', y, hg⟩
theorem hbB_weak {mp : Nat} {FS B : List Nat} {v : Value} (y : Chg (hb :: B) w w') : Chg (hb :: stS q mp FS v B) w w' := y.weak fun i _ hi => by
  simp only [List.mem_cons] at hi ⊢
  rcases hi with hi | hi
  · exact .inl hi
  · exact .inr (by simp [stS, hi])
theorem SepC.sChild (H : SepC w0 w (stT q hp hb n a m s :: l)) (p i c : Int) (r : Rg) (hp' : -9223372036854775808 ≤ p ∧ p ≤ 9223372036854775807) (hc' : -9223372036854775808 ≤ c ∧ c ≤ 9223372036854775807) :
    Calls Try.prog 44 #[.pointer (some ⟨q, 0, none⟩), .int .i64 p, .int .i64 i, .int .i64 c, .agg r.cs] w fun e w' => e = .returned (.bool (childB s p i c)) ∧ SepC w0 w' (stT q hp hb n a m (childS n s p i c r) :: l) :=
  H.stCall (fun ok => ok.child p i c r) fun _ _ FS v B h => (Schild_any p i c r w h H.sok hp' hc').mono fun _ _ ⟨he, h', y⟩ => ⟨he, FS, v, B, h', hbB_weak y, fun _ hi => .inl hi⟩
theorem SepC.sLeaf (H : SepC w0 w (stT q hp hb n a m s :: l)) (p i g x : Int) (r : Rg) (hp' : -9223372036854775808 ≤ p ∧ p ≤ 9223372036854775807) :
    Calls Try.prog 45 #[.pointer (some ⟨q, 0, none⟩), .int .i64 p, .int .i64 i, .int .i64 g, .int .i64 x, .agg r.cs] w fun e w' => e = .returned (.bool (leafB n s p i x)) ∧ SepC w0 w' (stT q hp hb n a m (leafS n s p i g x r) :: l) :=
  H.stCall (fun ok => ok.leaf p i g x r) fun _ _ FS v B h => (Sleaf_any p i g x r w h H.sok hp').mono fun _ _ ⟨he, h', y⟩ => ⟨he, FS, v, B, h', hbB_weak y, fun _ hi => .inl hi⟩
theorem SepC.sClear (H : SepC w0 w (stT q hp hb n a m s :: l)) (p i : Int) (hp' : -9223372036854775808 ≤ p ∧ p ≤ 9223372036854775807) :
    Calls Try.prog 43 #[.pointer (some ⟨q, 0, none⟩), .int .i64 p, .int .i64 i] w fun e w' => e = .returned (.bool (clearB s p i)) ∧ SepC w0 w' (stT q hp hb n a m (clearS n s p i) :: l) :=
  H.stCall (fun ok => ok.clear p i) fun _ _ FS v B h => (Sclear_any p i w h hp').mono fun _ _ ⟨he, h', y⟩ => ⟨he, FS, v, B, h', hbB_weak y, fun _ hi => .inl hi⟩
theorem SepC.sDrop (H : SepC w0 w (stT q hp hb n a m s :: l)) (p : Int) (hp' : -9223372036854775808 ≤ p ∧ p ≤ 9223372036854775807) :
    Calls Try.prog 41 #[.pointer (some ⟨q, 0, none⟩), .int .i64 p] w fun e w' => e = .returned (.bool (dropB s p)) ∧ SepC w0 w' (stT q hp hb n a m (dropS s p) :: l) := by
  cases hd : dropB s p with
  | true => exact H.stCall (fun ok => ok.drop p) fun _ _ _ _ _ h => Sdrop_yes p w h H.sok hp' hd
  | false =>
    have e : dropS s p = s := by unfold dropS; rw [if_neg (by rw [hd]; simp)]
    rw [e]
    obtain ⟨_, _, _, _, _, h⟩ := H.stx
    exact (Sdrop_no p w h hp' hd).mono fun _ _ ⟨he, y⟩ => ⟨he, H.new y⟩
theorem SepC.sFind (H : SepC w0 w (stT q hp hb n a m s :: l)) (k : Ky) : Calls Try.prog 17 #[.pointer (some ⟨q, 0, none⟩), .agg k.cs] w fun e w' => e = .returned (.tuple #[.int .i64 (findV s.L k), .bool (pgOf s.L k).isSome]) ∧ Chg [] w w' := by
  obtain ⟨_, _, _, _, _, h⟩ := H.stx; exact Sfind_any k w h
theorem SepC.sKey (H : SepC w0 w (stT q hp hb n a m s :: l)) (p : Int) (hp' : -9223372036854775808 ≤ p ∧ p ≤ 9223372036854775807) : Calls Try.prog 19 #[.pointer (some ⟨q, 0, none⟩), .int .i64 p] w fun e w' => e = .returned (.tuple #[.agg (keyV s.L p).cs, .bool (pgAt s.L p).isSome]) ∧ Chg [] w w' := by
  obtain ⟨_, _, _, _, _, h⟩ := H.stx; exact Skey_any p w h hp'
theorem SepC.sSlot (H : SepC w0 w (stT q hp hb n a m s :: l)) (p i : Int) (hp' : -9223372036854775808 ≤ p ∧ p ≤ 9223372036854775807) : Calls Try.prog 21 #[.pointer (some ⟨q, 0, none⟩), .int .i64 p, .int .i64 i] w fun e w' => e = .returned (.tuple #[.agg (slotV s.L p i).cl.toArray, .bool (slotP s.L p i).isSome]) ∧ Chg [] w w' := by
  obtain ⟨_, _, _, _, _, h⟩ := H.stx; exact Sslot_any p i w h hp'
theorem SepC.sLeft (H : SepC w0 w (stT q hp hb n a m s :: l)) : Calls Try.prog 23 #[.pointer (some ⟨q, 0, none⟩)] w fun e w' => e = .returned (.int .i64 s.fr.length) ∧ Chg [] w w' := by
  obtain ⟨_, _, _, _, _, h⟩ := H.stx; exact Sleft_any w h
theorem SrOk.le256 (h : SrOk n a m s) : s.L.length ≤ 256 := by have := h.cnt; have := h.le; have := h.n256; omega
/-- a list that a call hands out, laid beside -/
theorem SepC.sParents (H : SepC w0 w (stT q hp hb n a m s :: l)) (p : Int) : Calls Try.prog 31 #[.pointer (some ⟨q, 0, none⟩), .int .i64 p] w fun e w' => ∃ A c, e = .returned (.slice A (toldP 1 p s.L).length c) ∧ SepC w0 w' (ownT atE 70 (.slice A (toldP 1 p s.L).length c) (toldP 1 p s.L) :: stT q hp hb n a m s :: l) := by
  obtain ⟨_, _, _, _, _, h⟩ := H.stx
  exact (Sparents_any p w h H.sok.le256).mono fun _ _ ⟨A, c, he, ho, hg, y⟩ => ⟨A, c, he, H.lay y ⟨rfl, ho⟩ hg⟩
theorem SepC.sLeaves (H : SepC w0 w (stT q hp hb n a m s :: l)) (p : Int) : Calls Try.prog 33 #[.pointer (some ⟨q, 0, none⟩), .int .i64 p] w fun e w' => ∃ A c, e = .returned (.slice A (toldP 2 p s.L).length c) ∧ SepC w0 w' (ownT atE 70 (.slice A (toldP 2 p s.L).length c) (toldP 2 p s.L) :: stT q hp hb n a m s :: l) := by
  obtain ⟨_, _, _, _, _, h⟩ := H.stx
  exact (Sleaves_any p w h H.sok.le256).mono fun _ _ ⟨A, c, he, ho, hg, y⟩ => ⟨A, c, he, H.lay y ⟨rfl, ho⟩ hg⟩
theorem SepC.sAll (H : SepC w0 w (stT q hp hb n a m s :: l)) : Calls Try.prog 26 #[.pointer (some ⟨q, 0, none⟩)] w fun e w' => ∃ A c, e = .returned (.slice A (s.L.map Pg.f).length c) ∧ SepC w0 w' (ownT (numE .i64) 3 (.slice A (s.L.map Pg.f).length c) (s.L.map Pg.f) :: stT q hp hb n a m s :: l) := by
  obtain ⟨_, _, _, _, _, h⟩ := H.stx
  exact (Sall_any w h H.sok.le256).mono fun _ _ ⟨A, c, he, ho, hg, y⟩ => ⟨A, c, he, H.lay y ⟨rfl, ho⟩ hg⟩
theorem SepC.sOf (H : SepC w0 w (stT q hp hb n a m s :: l)) (g : Int) : Calls Try.prog 28 #[.pointer (some ⟨q, 0, none⟩), .int .i64 g] w fun e w' => ∃ A c, e = .returned (.slice A (ofP s.L g).length c) ∧ SepC w0 w' (ownT (numE .i64) 3 (.slice A (ofP s.L g).length c) (ofP s.L g) :: stT q hp hb n a m s :: l) := by
  obtain ⟨_, _, _, _, _, h⟩ := H.stx
  exact (Sof_any g w h H.sok.le256).mono fun _ _ ⟨A, c, he, ho, hg, y⟩ => ⟨A, c, he, H.lay y ⟨rfl, ho⟩ hg⟩
end

end Go.Proofs.Ytpmfooeifhhfkaa
