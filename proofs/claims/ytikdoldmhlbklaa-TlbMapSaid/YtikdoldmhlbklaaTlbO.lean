/-
  A list of calls, as the laws of tlb get it; what is got of one pair behind each call.
-/
import Derived.Test.YtikdoldmhlbklaaTlbN
namespace Go.Proofs.Ytikdoldmhlbklaa
open Go.RowKit Go.Shelf

/-- a call: what, the hit, the number -/
structure OpT where
  what : Int
  h : Ht
  n : Int
instance OpT.inh : Inhabited OpT := ⟨⟨0, Ht.zero, 0⟩⟩
/-- it lies here -/
structure OpC (w : World) (b o : Nat) (x : OpT) : Prop where
  c0 : w.cell? ⟨b, o, none⟩ = some (.int .i64 x.what)
  c1 : w.cell? ⟨b, o + 1, none⟩ = some (.int .i64 x.h.a)
  c2 : w.cell? ⟨b, o + 2, none⟩ = some (.int .i64 x.h.p)
  c3 : w.cell? ⟨b, o + 3, none⟩ = some (.int .i64 x.h.f)
  c4 : w.cell? ⟨b, o + 4, none⟩ = some (.bool x.h.w)
  c5 : w.cell? ⟨b, o + 5, none⟩ = some (.bool x.h.u)
  c6 : w.cell? ⟨b, o + 6, none⟩ = some (.bool x.h.x)
  c7 : w.cell? ⟨b, o + 7, none⟩ = some (.bool x.h.d)
  c8 : w.cell? ⟨b, o + 8, none⟩ = some (.int .i64 x.n)
  wf : -9223372036854775808 ≤ x.n ∧ x.n ≤ 9223372036854775807
theorem OpC.chg {S : List Nat} {w w' : World} {b o : Nat} {x : OpT} (h : OpC w b o x) (hc : Chg S w w') (hb : b < w.heap.size) (hn : b ∉ S) : OpC w' b o x :=
  have e : ∀ i, w'.cell? ⟨b, i, none⟩ = w.cell? ⟨b, i, none⟩ := fun i => hc.cell (p := ⟨b, i, none⟩) hb hn
  ⟨(e _).trans h.c0, (e _).trans h.c1, (e _).trans h.c2, (e _).trans h.c3, (e _).trans h.c4, (e _).trans h.c5, (e _).trans h.c6, (e _).trans h.c7, (e _).trans h.c8, h.wf⟩
/-- a slice of calls, nil let in -/
structure SlO (w : World) (A : Option Addr) (n : Nat) : Prop where
  le : n ≤ 9223372036854775807
  at_ : 0 < n → ∃ b off, A = some ⟨b, off, none⟩ ∧ b < w.heap.size ∧ ∀ j, j < n → ∃ x, OpC w b (off + j * 9) x
theorem SlO.new {w w' : World} {A : Option Addr} {n : Nat} (h : SlO w A n) (hc : Chg [] w w') : SlO w' A n :=
  ⟨h.le, fun h0 => by
    obtain ⟨b, off, e, hb, hr⟩ := h.at_ h0
    exact ⟨b, off, e, Nat.lt_of_lt_of_le hb hc.size, fun j hj => by obtain ⟨x, hx⟩ := hr j hj; exact ⟨x, hx.chg hc hb (by simp)⟩⟩⟩
theorem SlO.get {w : World} {A : Option Addr} {n : Nat} (h : SlO w A n) {k : Nat} (hk : k < n) : ∃ b off x, A = some ⟨b, off, none⟩ ∧ b < w.heap.size ∧ OpC w b (off + k * 9) x := by
  obtain ⟨b, off, e, hb, hr⟩ := h.at_ (by omega)
  obtain ⟨x, hx⟩ := hr k hk
  exact ⟨b, off, x, e, hb, hx⟩

theorem Far.blk {F : List Nat} {w w' : World} {g : Nat} {t : TypeId} {cs : Array Value} (h : Far F w w') (hb : Blk w g t cs) (hg : g ∈ F) : Blk w' g t cs := by
  obtain ⟨S, hc, hd⟩ := h
  exact hc.blk hb fun hm => hd g hm hg

/-- what is told of the pair (a, p): whether it is there, and what it is then -/
def Tells (L : List Ht) (a p : Int) (t : Bool) (x : Ht) : Prop := hasT L a p = t ∧ (t = true → getT L a p = x)
section
variable {L : List Ht} {a p : Int} {t : Bool} {x : Ht}
theorem getT_none (h : hasT L a p = false) : getT L a p = Ht.zero := by
  unfold hasT at h
  rw [List.any_eq_false] at h
  unfold getT
  rw [List.find?_eq_none.2 fun x hx => by simpa using h x hx]; rfl
theorem Tells.nil (a p : Int) (x : Ht) : Tells [] a p false x := ⟨rfl, by simp⟩
theorem Tells.filter_same {q : Ht → Bool} (h : Tells L a p t x) (hq : ∀ y : Ht, y.isK a p = true → q y = true) : Tells (L.filter q) a p t x := by
  have e1 : hasT (L.filter q) a p = hasT L a p := by
    unfold hasT
    rw [List.any_filter]
    congr 1
    funext y
    cases hy : y.isK a p with
    | true => simp [hq y hy]
    | false => simp
  have e2 : getT (L.filter q) a p = getT L a p := by
    unfold getT
    rw [List.find?_filter]
    congr 2
    funext y
    cases hy : y.isK a p with
    | true => simp [hq y hy]
    | false => simp
  exact ⟨e1.trans h.1, fun ht => e2.trans (h.2 ht)⟩
theorem Tells.filter_none {q : Ht → Bool} (hq : ∀ y : Ht, y.isK a p = true → q y = false) (x : Ht) : Tells (L.filter q) a p false x := by
  refine ⟨?_, by simp⟩
  unfold hasT
  rw [List.any_eq_false]
  intro y hy
  rw [List.mem_filter] at hy
  intro hk
  rw [hq y hk] at hy
  simp at hy
theorem Tells.drop_mine (_h : Tells L a p t x) (x' : Ht) : Tells (dropT L a p) a p false x' := Tells.filter_none (fun y hy => by simp [hy]) x'
theorem Tells.drop_other (h : Tells L a p t x) {b q : Int} (hn : ¬ (b = a ∧ q = p)) : Tells (dropT L b q) a p t x := h.filter_same fun y hy => by
  rw [isK_iff] at hy
  rw [Bool.not_eq_true', Bool.eq_false_iff, Ne, isK_iff]
  exact fun e => hn ⟨by rw [← e.1, hy.1], by rw [← e.2, hy.2]⟩
theorem Tells.flush_mine (_h : Tells L a p t x) (x' : Ht) : Tells (flushT L a) a p false x' := Tells.filter_none (fun y hy => by rw [isK_iff] at hy; simp [hy.1]) x'
theorem Tells.flush_other (h : Tells L a p t x) {b : Int} (hn : b ≠ a) : Tells (flushT L b) a p t x := h.filter_same fun y hy => by
  rw [isK_iff] at hy
  simp [hy.1]; exact fun e => hn e.symm
theorem putT_few {most : Nat} {h : Ht} (hl : L.length < most) : putT most L h = dropT L h.a h.p ++ [h] := by
  unfold putT cutT
  rw [if_neg (by have := dropT_len L h.a h.p; omega)]
theorem Tells.put_mine {h : Ht} (H : Tells L a p t x) {most : Nat} (hl : L.length < most) (hk : h.a = a ∧ h.p = p) : Tells (putT most L h) a p true h := by
  rw [putT_few hl, hk.1, hk.2]
  have hd := (H.drop_mine x).1
  unfold hasT at hd
  refine ⟨by unfold hasT; simp [Ht.isK, hk], fun _ => ?_⟩
  unfold getT
  rw [List.find?_append, List.find?_eq_none.2 (fun y hy => by rw [List.any_eq_false] at hd; exact hd y hy)]
  simp [Ht.isK, hk]
theorem Tells.put_other {h : Ht} (H : Tells L a p t x) {most : Nat} (hl : L.length < most) (hk : ¬ (h.a = a ∧ h.p = p)) : Tells (putT most L h) a p t x := by
  rw [putT_few hl]
  have hd := H.drop_other hk
  have hf : h.isK a p = false := by rw [Bool.eq_false_iff, Ne, isK_iff]; exact hk
  refine ⟨?_, fun ht => ?_⟩
  · have := hd.1
    unfold hasT at this ⊢
    rw [List.any_append, this]; simp [hf]
  · have := hd.2 ht
    unfold getT at this ⊢
    rw [List.find?_append]
    have e : (([h] : List Ht).find? fun h => h.isK a p) = none := by simp [hf]
    rw [e, Option.or_none]; exact this
theorem Tells.get (H : Tells L a p t x) : getT L a p = if t then x else Ht.zero := by
  cases t with
  | true => exact H.2 rfl
  | false => exact getT_none H.1
theorem putT_len1 (most : Nat) (h : Ht) : (putT most L h).length ≤ L.length + 1 := by
  unfold putT
  rw [List.length_append]
  have := (cutT_sub most (dropT L h.a h.p)).length_le
  have := dropT_len L h.a h.p
  simp; omega
theorem flushT_len (L : List Ht) (a : Int) : (flushT L a).length ≤ L.length := List.length_filter_le _ _
end

end Go.Proofs.Ytikdoldmhlbklaa
