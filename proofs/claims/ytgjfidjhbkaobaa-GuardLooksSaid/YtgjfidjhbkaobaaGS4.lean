/-
  StoreO, StoreHead, StoreQ, StoreT, StoreU, StoreV in one text.
-/
import Derived.Test.YtgjfidjhbkaobaaGS3
import Derived.Test.YtgjfidjhbkaobaaSameI
namespace Go.Proofs.Ytgjfidjhbkaobaa
open Go.RowKit Go.Maps

set_option maxRecDepth 100000 in
theorem run_neAt (a b : Int × Int) (w : World) : (binOp .neq 101 (.agg #[.int .i64 a.1, .int .i64 a.2]) (.agg #[.int .i64 b.1, .int .i64 b.2])).run Try.prog w = .ok (.bool (!decide (a = b))) w := by
  have e : decide (a = b) = (a.1 == b.1 && a.2 == b.2) := by
    rw [Bool.eq_iff_iff, decide_eq_true_eq, Prod.ext_iff]; simp
  have h : (Op.equalIn 10000 101 (.agg #[.int .i64 a.1, .int .i64 a.2]) (.agg #[.int .i64 b.1, .int .i64 b.2])).run Try.prog w = .ok (decide (a = b)) w := by
    rw [e, run_equalIn_struct w 9999 _ _ _ (by kernel_rfl) (by kernel_rfl)]
    simp only [Program.fieldsOf, Try.underlying101]
    refine fields_step (c := a.1 == b.1) (by decide) (part_int w _ .i64 Try.underlying3 _ 0 a.1 rfl) (part_int w _ .i64 Try.underlying3 _ 0 b.1 rfl) (run_equalIn_int w 9998 _ .i64 .i64 _ _ Try.underlying3) ?_
    exact fields_int Try.underlying3 (by decide) rfl (part_int w _ .i64 Try.underlying3 _ 1 a.2 rfl) (part_int w _ .i64 Try.underlying3 _ 1 b.2 rfl) fields_nil
  rw [run_neq_struct, h]; rfl
theorem at_ext {L M : List (Int × Int)} (hl : L.length = M.length) (h : ∀ j, j < L.length → L[j]? = M[j]?) : L = M := by
  apply List.ext_getElem? 
  intro j
  by_cases hj : j < L.length
  · exact h j hj
  · rw [List.getElem?_eq_none (by omega), List.getElem?_eq_none (by omega)]
theorem atG_cells {w : World} {A : Option Addr} {n : Nat} {L : List (Int × Int)} (h : SlG atE w A n L) {k : Nat} (hk : k < n) : ∃ b off x, A = some ⟨b, off, none⟩ ∧ L[k]? = some x ∧ w.cell? ⟨b, off + k * 2, none⟩ = some (.int .i64 x.1) ∧ w.cell? ⟨b, off + k * 2 + 1, none⟩ = some (.int .i64 x.2) := by
  obtain ⟨b, off, x, e, _, hx, hat⟩ := h.get hk
  exact ⟨b, off, x, e, hx, hat 0 _ rfl, hat 1 _ rfl⟩
/-! ### a call, as the laws make it -/
structure Ost where
  what : Int
  k : Ky
  p : Int
  i : Int
  t : Int
  h : Int
  r : Rg
def Ost.cs (o : Ost) : Array Value := #[.int .i64 o.what, .int .i64 o.k.g, .int .i64 o.k.lev, .int .i64 o.k.role, .int .i64 o.p, .int .i64 o.i, .int .i64 o.t, .int .i64 o.h, .bool o.r.w, .bool o.r.u, .bool o.r.x]
def playS (n : Nat) (s : Sr) (o : Ost) : Sr :=
  if o.what = 0 ∨ o.what = 1 then makeS n s o.k else if o.what = 2 ∨ o.what = 3 then childS n s o.p o.i o.t o.r else if o.what = 4 ∨ o.what = 5 then leafS n s o.p o.i o.t o.h o.r else if o.what = 6 then clearS n s o.p o.i else dropS s o.p
def playV (s : Sr) (o : Ost) : Int := if o.what = 0 ∨ o.what = 1 then makeV s o.k else 0
def playB (n : Nat) (s : Sr) (o : Ost) : Bool :=
  if o.what = 0 ∨ o.what = 1 then makeB s o.k else if o.what = 2 ∨ o.what = 3 then childB s o.p o.i o.t else if o.what = 4 ∨ o.what = 5 then leafB n s o.p o.i o.h else if o.what = 6 then clearB s o.p o.i else dropB s o.p
/-- its numbers are ints -/
def Ost.Wf (o : Ost) : Prop := (-9223372036854775808 ≤ o.p ∧ o.p ≤ 9223372036854775807) ∧ (-9223372036854775808 ≤ o.t ∧ o.t ≤ 9223372036854775807)
def runP (n : Nat) (s : Sr) (l : List Ost) : Sr := l.foldl (playS n) s
theorem SrOk.play {n a m : Nat} {s : Sr} (h : SrOk n a m s) (o : Ost) : SrOk n a m (playS n s o) := by
  unfold playS
  split
  · exact h.make _
  split
  · exact h.child _ _ _ _
  split
  · exact h.leaf _ _ _ _ _
  split
  · exact h.clear _ _
  · exact h.drop _
theorem SrOk.run {n a m : Nat} : ∀ (l : List Ost) {s : Sr}, SrOk n a m s → SrOk n a m (runP n s l)
  | [], _, h => h
  | o :: l, _, h => SrOk.run l (h.play o)
theorem runP_take {n : Nat} {s : Sr} {l : List Ost} {k : Nat} {o : Ost} (h : l[k]? = some o) : runP n s (l.take (k + 1)) = playS n (runP n s (l.take k)) o := by
  obtain ⟨h1, h2⟩ := List.getElem?_eq_some_iff.1 h
  rw [List.take_succ_eq_append_getElem h1, h2]
  unfold runP; rw [List.foldl_append]; rfl

section
variable {w0 w : World} {l : List Th} {q hp hb n a m : Nat} {s : Sr}
end

end Go.Proofs.Ytgjfidjhbkaobaa

namespace Go.Proofs.Ytgjfidjhbkaobaa
open Go.RowKit Go.Maps

def hd0 : Sr := ⟨[], dnk 4 3, zeros 128⟩
def hd1 : Sr := makeS 16 hd0 ⟨9, 2, 0⟩
def hd2 : Sr := makeS 16 hd1 ⟨5, 1, 0⟩
def hd3 : Sr := makeS 16 hd2 ⟨5, 1, 0⟩
def hd4 : Sr := makeS 16 hd3 ⟨5, 2, 1⟩
def hd5 : Sr := childS 16 hd4 4 3 5 ⟨true, false, true⟩
def hd6 : Sr := leafS 16 hd5 5 0 7 12 ⟨false, true, false⟩
def hd7 : Sr := childS 16 hd6 5 3 4 ⟨false, false, false⟩
def hd8 : Sr := leafS 16 hd7 4 3 7 12 ⟨false, false, false⟩
def hd9 : Sr := dropS hd8 5

end Go.Proofs.Ytgjfidjhbkaobaa

namespace Go.Proofs.Ytgjfidjhbkaobaa
open Go.RowKit Go.Maps

def opE : Enc Ost := ⟨fun o => o.cs.toList, 11, by decide, fun _ => rfl, fun o u hu => by
  simp only [Ost.cs, List.mem_cons, List.not_mem_nil, or_false] at hu
  rcases hu with rfl | rfl | rfl | rfl | rfl | rfl | rfl | rfl | rfl | rfl | rfl <;> rfl⟩
theorem opE_cells {w : World} {A : Option Addr} {n : Nat} {L : List Ost} (h : SlG opE w A n L) {k : Nat} (hk : k < n) : ∃ b off o, A = some ⟨b, off, none⟩ ∧ L[k]? = some o ∧
    w.cell? ⟨b, off + k * 11, none⟩ = some (.int .i64 o.what) ∧ w.cell? ⟨b, off + k * 11 + 1, none⟩ = some (.int .i64 o.k.g) ∧ w.cell? ⟨b, off + k * 11 + 2, none⟩ = some (.int .i64 o.k.lev) ∧ w.cell? ⟨b, off + k * 11 + 3, none⟩ = some (.int .i64 o.k.role) ∧
    w.cell? ⟨b, off + k * 11 + 4, none⟩ = some (.int .i64 o.p) ∧ w.cell? ⟨b, off + k * 11 + 5, none⟩ = some (.int .i64 o.i) ∧ w.cell? ⟨b, off + k * 11 + 6, none⟩ = some (.int .i64 o.t) ∧ w.cell? ⟨b, off + k * 11 + 7, none⟩ = some (.int .i64 o.h) ∧
    w.cell? ⟨b, off + k * 11 + 8, none⟩ = some (.bool o.r.w) ∧ w.cell? ⟨b, off + k * 11 + 9, none⟩ = some (.bool o.r.u) ∧ w.cell? ⟨b, off + k * 11 + 10, none⟩ = some (.bool o.r.x) := by
  obtain ⟨b, off, x, e, _, hx, hat⟩ := h.get hk
  exact ⟨b, off, x, e, hx, hat 0 _ rfl, hat 1 _ rfl, hat 2 _ rfl, hat 3 _ rfl, hat 4 _ rfl, hat 5 _ rfl, hat 6 _ rfl, hat 7 _ rfl, hat 8 _ rfl, hat 9 _ rfl, hat 10 _ rfl⟩
/-- calls that came in -/
structure OpsIn (w : World) (A : Option Addr) (n : Nat) (L : List Ost) : Prop where
  sl : SlG opE w A n L
  wf : ∀ o ∈ L, o.Wf
theorem OpsIn.new {w w' : World} {A : Option Addr} {n : Nat} {L : List Ost} (h : OpsIn w A n L) (hc : Chg [] w w') : OpsIn w' A n L := ⟨h.sl.new hc, h.wf⟩
/-- the store that the laws begin with -/
def st0 (m : Nat) : Sr := ⟨[], dnk 6 m, zeros 192⟩
theorem st0_ok (m : Nat) (h : m ≤ 18) : SrOk 24 6 m (st0 m) := SrOk.new (by omega) (by omega) (by simp [zeros_len])
theorem OpsIn.at_ {w : World} {A : Option Addr} {n : Nat} {L : List Ost} (h : OpsIn w A n L) {k : Nat} {o : Ost} (ho : L[k]? = some o) : o.Wf := h.wf o (List.mem_of_getElem? ho)

section
variable {n a m : Nat} {s : Sr}
theorem keyV_at {L : List Pg} {p : Int} {q : Pg} (h : pgAt L p = some q) : keyV L p = q.k := by unfold keyV; rw [h]; rfl
theorem slotV_at {L : List Pg} {p i : Int} {x : Slt} (h : slotP L p i = some x) : slotV L p i = x := by unfold slotV; rw [h]; rfl
theorem getW_at {W : List Int} {f i : Nat} {v : Int} (hf : f < n) (hi : i < 8) (h : W[f * 8 + i]? = some v) : getW n W (f : Int) (i : Int) = v := by
  unfold getW
  rw [if_pos (by unfold hasW; rw [decide_eq_true_eq]; omega)]
  simp [List.getD_eq_getElem?_getD, h]
theorem last_getLastD (L : List Int) (x : Int) : (L ++ [x]).getD ((L ++ [x]).length - 1) 0 = x := by simp [List.getD_eq_getElem?_getD]

/-! a page that is made -/
structure Made (n : Nat) (s : Sr) (k : Ky) : Prop where
  b : makeB s k = true
  f : findV (makeS n s k).L k = makeV s k
  is : (pgOf (makeS n s k).L k).isSome = true
  sl : ∀ i : Nat, i < 8 → slotP (makeS n s k).L (makeV s k) i = some Slt.no
  wd : ∀ i : Nat, i < 8 → getW n (makeS n s k).W (makeV s k) i = 0
  all : (makeS n s k).L.map Pg.f = s.L.map Pg.f ++ [makeV s k]
  left : (makeS n s k).fr.length + 1 = s.fr.length
  rg : 0 ≤ makeV s k ∧ makeV s k < 256
theorem SrOk.made (h : SrOk n a m s) {k : Ky} (hb : makeB s k = true) : Made n s k := by
  obtain ⟨h1, h2, h3⟩ := makeB_has hb
  have hv : makeV s k = s.fr.getLastD 0 := by unfold makeV; rw [if_pos hb]
  have hs : makeS n s k = ⟨s.L ++ [⟨s.fr.getLastD 0, k, List.replicate 8 Slt.no⟩], s.fr.dropLast, fillW n s.W (s.fr.getLastD 0) (zeros 8)⟩ := by unfold makeS; rw [if_pos hb]
  have hm : s.fr.getLastD 0 ∈ s.fr := by rw [h3]; simp
  have hbd := h.mem (s.fr.getLastD 0) (List.mem_append.2 (.inr hm))
  have hle := h.le; have hn6 := h.n256
  have hnot : pgAt s.L (s.fr.getLastD 0) = none := pgAt_none.2 fun q hq e => (List.nodup_append.1 h.nd).2.2 q.f (List.mem_map.2 ⟨q, hq, rfl⟩) _ hm e
  have hfl := congrArg List.length h3
  rw [List.length_append, List.length_singleton] at hfl
  generalize s.fr.getLastD 0 = f at *
  have hpo : pgOf (makeS n s k).L k = some ⟨f, k, List.replicate 8 Slt.no⟩ := by rw [hs]; show pgOf (s.L ++ [_]) k = _; rw [pgOf_app_no h1]; simp [pgOf]
  refine ⟨hb, ?_, ?_, fun i hi => ?_, fun i hi => ?_, ?_, ?_, ?_⟩
  · unfold findV; rw [hpo, hv]; rfl
  · rw [hpo]; rfl
  · rw [hs, hv]
    unfold slotP
    rw [if_pos (by omega)]
    show (pgAt (s.L ++ [_]) f).bind _ = _
    rw [pgAt_app_no hnot]
    have e : pgAt [⟨f, k, List.replicate 8 Slt.no⟩] f = some ⟨f, k, List.replicate 8 Slt.no⟩ := by simp [pgAt]
    rw [e, Option.bind_some, Int.toNat_natCast, List.getElem?_replicate, if_pos hi]
  · rw [hs, hv]
    obtain ⟨F, rfl⟩ := Int.eq_ofNat_of_zero_le (show 0 ≤ f by omega)
    refine getW_at (by omega) hi ?_
    show (fillW n s.W (F : Int) (zeros 8))[_]? = _
    rw [fill_at (by omega) h.len, if_pos (by simp; omega)]
  · rw [hs, hv]; simp
  · rw [hs]; show s.fr.dropLast.length + 1 = _; omega
  · rw [hv]; omega
theorem make_no {k : Ky} (hb : makeB s k = false) : makeS n s k = s ∧ makeV s k = 0 := by unfold makeS makeV; rw [hb]; exact ⟨rfl, rfl⟩
end

end Go.Proofs.Ytgjfidjhbkaobaa

namespace Go.Proofs.Ytgjfidjhbkaobaa
open Go.RowKit Go.Maps

/-- what slots tell are ints -/
def ToOk (L : List Pg) : Prop := ∀ q ∈ L, ∀ x ∈ q.s, -9223372036854775808 ≤ x.to_ ∧ x.to_ ≤ 9223372036854775807
section
variable {n a m : Nat} {s : Sr}
theorem ToOk.set {L : List Pg} (h : ToOk L) (p : Int) (i : Nat) {x : Slt} (hx : -9223372036854775808 ≤ x.to_ ∧ x.to_ ≤ 9223372036854775807) : ToOk (setP L p i x) := by
  intro q' hq' y hy
  obtain ⟨q, hq, _, _, hs⟩ := mem_setP hq'
  rw [hs] at hy
  split at hy
  · rcases List.mem_or_eq_of_mem_set hy with hy | rfl
    · exact h q hq y hy
    · exact hx
  · exact h q hq y hy
theorem ToOk.wipe (h : ToOk s.L) (c : Int → Nat → Bool) : ToOk (wipeS s c).L := by
  intro q' hq' y hy
  unfold wipeS at hq'
  rw [updS_L] at hq'
  obtain ⟨q, hq, _, _, hs⟩ := mem_upd hq'
  rw [hs, List.mem_mapIdx] at hy
  obtain ⟨i, hi, rfl⟩ := hy
  unfold wipeU updX
  split
  · simp [Slt.no]
  · simp only [Option.map_none, Option.getD_none]; exact h q hq _ (List.getElem_mem hi)
theorem ToOk.play (h : ToOk s.L) {o : Ost} (hw : o.Wf) : ToOk (playS n s o).L := by
  unfold playS
  split
  · unfold makeS
    split
    · intro q hq y hy
      rcases List.mem_append.1 hq with hq | hq
      · exact h q hq y hy
      · rw [List.mem_singleton] at hq; subst hq
        have := List.eq_of_mem_replicate hy
        subst this; simp [Slt.no]
    · exact h
  split
  · unfold childS
    split
    · rw [setS_L]; exact h.set _ _ hw.2
    · exact h
  split
  · unfold leafS
    split
    · rw [setS_L]; exact h.set _ _ hw.2
    · exact h
  split
  · unfold clearS
    split
    · rw [setS_L]; exact h.set _ _ (by simp [Slt.no])
    · exact h
  · unfold dropS
    split
    · intro q hq y hy
      exact h.wipe (goneC s.L o.p) q (List.mem_filter.1 hq).1 y hy
    · exact h
theorem ToOk.run : ∀ (l : List Ost) {s : Sr}, ToOk s.L → (∀ o ∈ l, o.Wf) → ToOk (runP n s l).L
  | [], _, h, _ => h
  | o :: l, _, h, hw => ToOk.run l (h.play (hw o List.mem_cons_self)) fun o' ho => hw o' (List.mem_cons_of_mem _ ho)
theorem st0_to (m : Nat) : ToOk (st0 m).L := by intro q hq; simp [st0] at hq

/-- the page at a place -/
theorem SrOk.place (h : SrOk n a m s) {j : Nat} (hj : j < s.L.length) : ∃ q, s.L[j]? = some q ∧ q ∈ s.L ∧ pgAt s.L q.f = some q ∧ keyV s.L q.f = q.k ∧ (0 ≤ q.f ∧ q.f < 256 ∧ (a : Int) ≤ q.f ∧ q.f < a + m) ∧ (s.L.map Pg.f)[j]? = some q.f := by
  refine ⟨s.L[j], List.getElem?_eq_getElem hj, List.getElem_mem hj, h.at_ (List.getElem_mem hj), keyV_at (h.at_ (List.getElem_mem hj)), ?_, by simp [hj]⟩
  have := h.inL (List.getElem_mem hj)
  have := h.le; have := h.n256
  omega
/-- its slot -/
theorem SrOk.slotAt (h : SrOk n a m s) {j i : Nat} (hi : i < 8) {q : Pg} (hq : s.L[j]? = some q) : ∃ x, q.s[i]? = some x ∧ slotP s.L q.f (i : Int) = some x ∧ x ∈ q.s ∧ ∀ hx : 8 * j + i < 8 * s.L.length, slX s.L ⟨8 * j + i, hx⟩ = x ∧ pgX s.L ⟨8 * j + i, hx⟩ = q := by
  have hqm := List.mem_of_getElem? hq
  obtain ⟨x, h1, h2⟩ := h.slot hqm hi
  refine ⟨x, h1, h2, List.mem_of_getElem? h1, fun hx => ?_⟩
  have e1 : (8 * j + i) / 8 = j := by omega
  have e2 : (8 * j + i) % 8 = i := by omega
  have e3 : pgX s.L ⟨8 * j + i, hx⟩ = q := by
    unfold pgX
    obtain ⟨h3, h4⟩ := List.getElem?_eq_some_iff.1 hq
    simp only [e1]; exact h4
  refine ⟨?_, e3⟩
  unfold slX
  rw [e3]
  simp only [e2, List.getD_eq_getElem?_getD, h1, Option.getD_some]
/-- links among the slots, counted one by one -/
theorem SrOk.lnkN (h : SrOk n a m s) (kind to_ : Int) : ∃ K : Nat → List (Int × Int), K 0 = [] ∧ K (8 * s.L.length) = toldP kind to_ s.L ∧ (∀ z, (K z).length ≤ 2048) ∧
    ∀ j i q x, s.L[j]? = some q → i < 8 → q.s[i]? = some x → K (8 * j + i + 1) = K (8 * j + i) ++ if x.kind = kind ∧ x.to_ = to_ then [(q.f, (i : Int))] else [] := by
  refine ⟨fun z => lnkF kind to_ s.L ((allI s.L.length).take z), by simp [lnkF], ?_, fun z => ?_, fun j i q x hq hi hx => ?_⟩
  · show lnkF kind to_ s.L ((allI s.L.length).take (8 * s.L.length)) = _
    rw [allI_full, lnkF_all h.eight]
  · have h1 := lnkF_len kind to_ s.L ((allI s.L.length).take z)
    have h2 : (allI s.L.length).length = 8 * s.L.length := by unfold allI; simp
    rw [List.length_take, h2] at h1
    have := h.cnt; have := h.le; have := h.n256
    show (lnkF kind to_ s.L ((allI s.L.length).take z)).length ≤ 2048
    omega
  · obtain ⟨hj, hq'⟩ := List.getElem?_eq_some_iff.1 hq
    have hlt : 8 * j + i < 8 * s.L.length := by omega
    obtain ⟨x', h1, _, _, h4⟩ := h.slotAt hi hq
    rw [hx] at h1; cases h1
    obtain ⟨e1, e2⟩ := h4 hlt
    show lnkF kind to_ s.L ((allI s.L.length).take (8 * j + i + 1)) = lnkF kind to_ s.L ((allI s.L.length).take (8 * j + i)) ++ _
    rw [allI_take hlt, lnkF_snoc, e1, e2]
    simp only [show (8 * j + i) % 8 = i by omega]
end

end Go.Proofs.Ytgjfidjhbkaobaa

namespace Go.Proofs.Ytgjfidjhbkaobaa
open Go.RowKit Go.Maps
section
variable {n a m : Nat} {s : Sr}
theorem SrOk.own1 (h : SrOk n a m s) {q : Pg} (hq : q ∈ s.L) : (ofP s.L q.k.g).count q.f = if q.k.role = 0 then 1 else 0 := by
  have hnd : (ofP s.L q.k.g).Nodup := (List.filter_sublist.map Pg.f).nodup h.ndL
  rw [hnd.count]
  have e : q.f ∈ ofP s.L q.k.g ↔ q.k.role = 0 := by
    unfold ofP
    rw [List.mem_map]
    constructor
    · rintro ⟨p, hp, hf⟩
      rw [List.mem_filter] at hp
      have h1 := h.at_ hp.1
      rw [hf, h.at_ hq] at h1
      cases h1
      exact (of_decide_eq_true hp.2).1
    · intro hr
      exact ⟨q, List.mem_filter.2 ⟨hq, decide_eq_true ⟨hr, rfl⟩⟩, rfl⟩
  by_cases hr : q.k.role = 0
  · rw [if_pos (e.2 hr), if_pos hr]
  · rw [if_neg (fun h' => hr (e.1 h')), if_neg hr]
theorem ofP_len (L : List Pg) (g : Int) : (ofP L g).length ≤ L.length := by
  unfold ofP; rw [List.length_map]; exact List.length_filter_le _ _
theorem count_step {T : List Int} {b : Nat} {x f : Int} (h : T[b]? = some x) : (T.take (b + 1)).count f = (T.take b).count f + if x = f then 1 else 0 := by
  rw [List.take_add_one, h, List.count_append]
  simp only [Option.toList_some, List.count_cons, List.count_nil, beq_iff_eq, Nat.zero_add]
theorem findV_of (h : SrOk n a m s) {q : Pg} (hq : q ∈ s.L) : findV s.L q.k = q.f ∧ (pgOf s.L q.k).isSome = true := by
  have := h.of_ hq
  unfold findV; rw [this]; exact ⟨rfl, rfl⟩
end

end Go.Proofs.Ytgjfidjhbkaobaa

namespace Go.Proofs.Ytgjfidjhbkaobaa
open Go.RowKit Go.Maps
section
variable {n a m : Nat} {s : Sr}
/-- all slots, one behind the other -/
theorem SrOk.slotsN (h : SrOk n a m s) : ∃ K : Nat → List Slt, K 0 = [] ∧ (∀ z, (K z).length ≤ 2048) ∧ (∀ z, z ≤ 8 * s.L.length → (K z).length = z) ∧
    (∀ j i q x, s.L[j]? = some q → i < 8 → q.s[i]? = some x → K (8 * j + i + 1) = K (8 * j + i) ++ [x]) ∧ ∀ j i q x, s.L[j]? = some q → i < 8 → q.s[i]? = some x → (K (8 * s.L.length))[8 * j + i]? = some x := by
  have h2 : (allI s.L.length).length = 8 * s.L.length := by unfold allI; simp
  have hat : ∀ j i q x, s.L[j]? = some q → i < 8 → q.s[i]? = some x → ∃ hlt : 8 * j + i < 8 * s.L.length, slX s.L ⟨8 * j + i, hlt⟩ = x := by
    intro j i q x hq hi hx
    obtain ⟨hj, _⟩ := List.getElem?_eq_some_iff.1 hq
    obtain ⟨x', h1, _, _, h4⟩ := h.slotAt hi hq
    rw [hx] at h1; cases h1
    exact ⟨by omega, (h4 (by omega)).1⟩
  refine ⟨fun z => ((allI s.L.length).take z).map (slX s.L), by simp, fun z => ?_, fun z hz => ?_, fun j i q x hq hi hx => ?_, fun j i q x hq hi hx => ?_⟩
  · show (((allI s.L.length).take z).map (slX s.L)).length ≤ 2048
    rw [List.length_map, List.length_take, h2]
    have := h.cnt; have := h.le; have := h.n256
    omega
  · show (((allI s.L.length).take z).map (slX s.L)).length = z
    rw [List.length_map, List.length_take, h2]; omega
  · obtain ⟨hlt, e⟩ := hat j i q x hq hi hx
    show ((allI s.L.length).take (8 * j + i + 1)).map (slX s.L) = ((allI s.L.length).take (8 * j + i)).map (slX s.L) ++ [x]
    rw [allI_take hlt, List.map_append, List.map_cons, List.map_nil, e]
  · obtain ⟨hlt, e⟩ := hat j i q x hq hi hx
    show (((allI s.L.length).take (8 * s.L.length)).map (slX s.L))[8 * j + i]? = some x
    rw [allI_full, List.getElem?_map]
    unfold allI
    rw [List.getElem?_eq_getElem (by rw [List.length_finRange]; exact hlt), Option.map_some, List.getElem_finRange]
    exact congrArg some e
theorem drop_none (h : s.L = []) (p : Int) : dropB s p = false := by unfold dropB; rw [h]; rfl
theorem clear_none (h : s.L = []) (p i : Int) : clearB s p i = false := by
  unfold clearB slotP; rw [h]; by_cases hi : 0 ≤ i ∧ i ≤ 7
  · rw [if_pos hi]; rfl
  · rw [if_neg hi]
theorem SrOk.dropped (h : SrOk n a m s) {q : Pg} (hq : q ∈ s.L) : dropB s q.f = true ∧ dropB (dropS s q.f) q.f = false ∧ toldP 1 q.f (dropS s q.f).L = [] := by
  have hb : dropB s q.f = true := by unfold dropB; rw [h.at_ hq]; rfl
  refine ⟨hb, ?_, told_gone h hb⟩
  have e : (dropS s q.f).L = (wipeS s (goneC s.L q.f)).L.filter fun q' => decide (q'.f ≠ q.f) := by unfold dropS; rw [if_pos hb]
  unfold dropB; rw [e, pgAt_filter, if_pos rfl]; rfl
theorem drop_drop {p : Int} (hb : dropB s p = false) : dropS s p = s := by unfold dropS; rw [if_neg (by rw [hb]; simp)]
end

end Go.Proofs.Ytgjfidjhbkaobaa
