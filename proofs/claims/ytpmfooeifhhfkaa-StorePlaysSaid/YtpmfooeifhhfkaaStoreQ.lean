/-
  What the laws of stores start from: their calls in a slice, the store that they make, the loop over the calls; plain facts.
-/
import Derived.Test.YtpmfooeifhhfkaaStoreHead
namespace Go.Proofs.Ytpmfooeifhhfkaa
open Go.RowKit Go.Maps

def opE : Enc Ost := ⟨fun o => o.cs.toList, 11, by decide, fun _ => rfl, fun o u hu => by
  simp only [Ost.cs, List.mem_cons, List.not_mem_nil, or_false] at hu
  rcases hu with rfl | rfl | rfl | rfl | rfl | rfl | rfl | rfl | rfl | rfl | rfl <;> rfl⟩
theorem opE_cells {w : World} {A : Option Addr} {n : Nat} {L : List Ost} (h : SlG opE w A n L) {k : Nat} (hk : k < n) : ∃ b off o, A = some ⟨b, off, none⟩ ∧ L[k]? = some o ∧
    w.cell? ⟨b, off + k * 11, none⟩ = some (.int .i64 o.what) ∧ w.cell? ⟨b, off + k * 11 + 1, none⟩ = some (.int .i64 o.k.g) ∧ w.cell? ⟨b, off + k * 11 + 2, none⟩ = some (.int .i64 o.k.lev) ∧ w.cell? ⟨b, off + k * 11 + 3, none⟩ = some (.int .i64 o.k.role) ∧
    w.cell? ⟨b, off + k * 11 + 4, none⟩ = some (.int .i64 o.p) ∧ w.cell? ⟨b, off + k * 11 + 5, none⟩ = some (.int .i64 o.i) ∧ w.cell? ⟨b, off + k * 11 + 6, none⟩ = some (.int .i64 o.t) ∧ w.cell? ⟨b, off + k * 11 + 7, none⟩ = some (.int .i64 o.h) ∧
    w.cell? ⟨b, off + k * 11 + 8, none⟩ = some (.bool o.r.w) ∧ w.cell? ⟨b, off + k * 11 + 9, none⟩ = some (.bool o.r.u) ∧ w.cell? ⟨b, off + k * 11 + 10, none⟩ = some (.bool o.r.x) := by
  obtain ⟨b, off, x, e, _, hx, hat⟩ := h.get hk
  exact ⟨b, off, x, e, hx, hat 0 _ rfl, hat 1 _ rfl, hat 2 _ rfl, hat 3 _ rfl, hat 4 _ rfl, hat 5 _ rfl, hat 6 _ rfl, hat 7 _ rfl, hat 8 _ rfl, hat 9 _ rfl, hat 10 _ rfl⟩
/-- calls that came in -/
structure OpsIn (w : World) (A : Option Addr) (n : Nat) (L : List Ost) : Prop where
  sl : SlG opE w A n L
  wf : ∀ o ∈ L, o.Wf
theorem OpsIn.new {w w' : World} {A : Option Addr} {n : Nat} {L : List Ost} (h : OpsIn w A n L) (hc : Chg [] w w') : OpsIn w' A n L := ⟨h.sl.new hc, h.wf⟩
/-- the store that the laws begin with -/
def st0 (m : Nat) : Sr := ⟨[], dnk 6 m, zeros 192⟩
theorem st0_ok (m : Nat) (h : m ≤ 18) : SrOk 24 6 m (st0 m) := SrOk.new (by omega) (by omega) (by simp [zeros_len])
theorem OpsIn.at_ {w : World} {A : Option Addr} {n : Nat} {L : List Ost} (h : OpsIn w A n L) {k : Nat} {o : Ost} (ho : L[k]? = some o) : o.Wf := h.wf o (List.mem_of_getElem? ho)

section
variable {n a m : Nat} {s : Sr}
theorem keyV_at {L : List Pg} {p : Int} {q : Pg} (h : pgAt L p = some q) : keyV L p = q.k := by unfold keyV; rw [h]; rfl
theorem slotV_at {L : List Pg} {p i : Int} {x : Slt} (h : slotP L p i = some x) : slotV L p i = x := by unfold slotV; rw [h]; rfl
theorem getW_at {W : List Int} {f i : Nat} {v : Int} (hf : f < n) (hi : i < 8) (h : W[f * 8 + i]? = some v) : getW n W (f : Int) (i : Int) = v := by
  unfold getW
  rw [if_pos (by unfold hasW; rw [decide_eq_true_eq]; omega)]
  simp [List.getD_eq_getElem?_getD, h]
theorem last_getLastD (L : List Int) (x : Int) : (L ++ [x]).getD ((L ++ [x]).length - 1) 0 = x := by simp [List.getD_eq_getElem?_getD]

/-! a page that is made -/
structure Made (n : Nat) (s : Sr) (k : Ky) : Prop where
  b : makeB s k = true
  f : findV (makeS n s k).L k = makeV s k
  is : (pgOf (makeS n s k).L k).isSome = true
  sl : ∀ i : Nat, i < 8 → slotP (makeS n s k).L (makeV s k) i = some Slt.no
  wd : ∀ i : Nat, i < 8 → getW n (makeS n s k).W (makeV s k) i = 0
  all : (makeS n s k).L.map Pg.f = s.L.map Pg.f ++ [makeV s k]
  left : (makeS n s k).fr.length + 1 = s.fr.length
  rg : 0 ≤ makeV s k ∧ makeV s k < 256
theorem SrOk.made (h : SrOk n a m s) {k : Ky} (hb : makeB s k = true) : Made n s k := by
  obtain ⟨h1, h2, h3⟩ := makeB_has hb
  have hv : makeV s k = s.fr.getLastD 0 := by unfold makeV; rw [if_pos hb]
  have hs : makeS n s k = ⟨s.L ++ [⟨s.fr.getLastD 0, k, List.replicate 8 Slt.no⟩], s.fr.dropLast, fillW n s.W (s.fr.getLastD 0) (zeros 8)⟩ := by unfold makeS; rw [if_pos hb]
  have hm : s.fr.getLastD 0 ∈ s.fr := by rw [h3]; simp
  have hbd := h.mem (s.fr.getLastD 0) (List.mem_append.2 (.inr hm))
  have hle := h.le; have hn6 := h.n256
  have hnot : pgAt s.L (s.fr.getLastD 0) = none := pgAt_none.2 fun q hq e => (List.nodup_append.1 h.nd).2.2 q.f (List.mem_map.2 ⟨q, hq, rfl⟩) _ hm e
  have hfl := congrArg List.length h3
  rw [List.length_append, List.length_singleton] at hfl
  generalize s.fr.getLastD 0 = f at *
  have hpo : pgOf (makeS n s k).L k = some ⟨f, k, List.replicate 8 Slt.no⟩ := by rw [hs]; show pgOf (s.L ++ [_]) k = _; rw [pgOf_app_no h1]; simp [pgOf]
  refine ⟨hb, ?_, ?_, fun i hi => ?_, fun i hi => ?_, ?_, ?_, ?_⟩
  · unfold findV; rw [hpo, hv]; rfl
  · rw [hpo]; rfl
  · rw [hs, hv]
    unfold slotP
    rw [if_pos (by omega)]
    show (pgAt (s.L ++ [_]) f).bind _ = _
    rw [pgAt_app_no hnot]
    have e : pgAt [⟨f, k, List.replicate 8 Slt.no⟩] f = some ⟨f, k, List.replicate 8 Slt.no⟩ := by simp [pgAt]
    rw [e, Option.bind_some, Int.toNat_natCast, List.getElem?_replicate, if_pos hi]
  · rw [hs, hv]
    obtain ⟨F, rfl⟩ := Int.eq_ofNat_of_zero_le (show 0 ≤ f by omega)
    refine getW_at (by omega) hi ?_
    show (fillW n s.W (F : Int) (zeros 8))[_]? = _
    rw [fill_at (by omega) h.len, if_pos (by simp; omega)]
  · rw [hs, hv]; simp
  · rw [hs]; show s.fr.dropLast.length + 1 = _; omega
  · rw [hv]; omega
theorem make_no {k : Ky} (hb : makeB s k = false) : makeS n s k = s ∧ makeV s k = 0 := by unfold makeS makeV; rw [hb]; exact ⟨rfl, rfl⟩
end

end Go.Proofs.Ytpmfooeifhhfkaa
