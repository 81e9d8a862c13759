/-
 DelI, StoreJ, StoreK, StoreL, StoreM, StoreN in one text.
-/
import Derived.Test.YtmbgepafpcbakaaGreatDoorG0K
import Derived.Lib.SliceRun
import Derived.Deep.RegionLaw
import Derived.Deep.LoopGhost
import Derived.Test.YtmbgepafpcbakaaGreatDoorGS2K
import Derived.Test.YtmbgepafpcbakaaGreatDoorSepGK
import Derived.Test.YtmbgepafpcbakaaGreatDoorHostK
namespace Go.Proofs.YtmbgepafpcbakaaGreatDoor
open Go.RowKit
def fstI (q : Int → Bool) (L : List Int) : Int := if L.any q then (L.findIdx q : Int) else -1
theorem fstI_hit {q : Int → Bool} {L : List Int} {k : Nat} (hk : k < L.length) (h1 : q (L.getD k 0) = true) (h0 : ∀ j, j < k → q (L.getD j 0) = false) : fstI q L = k := by
 have e : L.getD k 0 = L[k] := by simp [List.getD_eq_getElem?_getD, List.getElem?_eq_getElem hk]
 rw [e] at h1
 have h2 : L.any q = true := List.any_eq_true.2 ⟨_, List.getElem_mem hk, h1⟩
 unfold fstI
 rw [h2, if_pos rfl, (List.findIdx_eq hk).2 ⟨h1, fun j hj => by
  have := h0 j hj
  rw [List.getD_eq_getElem?_getD, List.getElem?_eq_getElem (show j < L.length by omega), Option.getD_some] at this
  simp [this]⟩]
theorem fstI_miss {q : Int → Bool} {L : List Int} (h0 : ∀ j, j < L.length → q (L.getD j 0) = false) : fstI q L = -1 := by
 have h2 : L.any q = false := by
  rw [List.any_eq_false]
  intro x hx
  obtain ⟨j, hj, rfl⟩ := List.getElem_of_mem hx
  have := h0 j hj
  rw [List.getD_eq_getElem?_getD, List.getElem?_eq_getElem hj, Option.getD_some] at this
  simp [this]
 unfold fstI
 rw [h2]; rfl
def RowI (w : World) (g : Nat) (M : List Int) (tl : List Value) : Prop := Blk w g 3 (vals .i64 M ++ tl).toArray
section
variable {w w' : World} {g : Nat} {M : List Int} {tl : List Value}
theorem RowI.cell (h : RowI w g M tl) {k : Nat} (hk : k < M.length) : w.cell? ⟨g, k, none⟩ = some (.int .i64 (M.getD k 0)) := by
 rw [Blk.cell (t := 3) h, qA, List.getElem?_append_left (by rw [vals_len]; exact hk), vals_get, List.getElem?_eq_getElem hk]
 simp [List.getD_eq_getElem?_getD, List.getElem?_eq_getElem hk]
theorem RowI.frozen (h : RowI w g M tl) (i : Nat) : w.frozen? ⟨g, i, none⟩ = false := Blk.frozen (t := 3) h i
theorem RowI.chg {S : List Nat} (h : RowI w g M tl) (hc : Chg S w w') (hn : g ∉ S) : RowI w' g M tl := hc.blk (t := 3) h hn
theorem RowI.set (h : RowI w g M tl) {i : Nat} (hi : i < M.length) (x : Int) : RowI (w.setCell ⟨g, i, none⟩ (.int .i64 x)) g (M.set i x) tl := by
 have := Blk.set_ (t := 3) h i (.int .i64 x)
 unfold RowI
 rw [qI, List.set_append_left _ _ (by rw [vals_len]; exact hi)] at this
 rw [show vals .i64 (M.set i x) = (vals .i64 M).set i (.int .i64 x) by simp [vals, List.map_set]]
 exact this
theorem RowI.own (h : RowI w g M tl) (c : Nat) (hm1 : M.length ≤ c) (hc : M.length + tl.length = c) (hm : c ≤ 9223372036854775807) : OwnI w 3 .i64 (.slice (some ⟨g, 0, none⟩) M.length c) M :=
 ⟨by simp [vals_len], .inr ⟨g, c, _, rfl, Nat.zero_le _, h, hm1, by simpa [maxLen] using hm, by simp [vals_len]; omega, by simp [vals_len]⟩⟩
theorem OwnI.rowI {n c : Nat} {L : List Int} (h : OwnI w 3 .i64 (.slice (some ⟨g, 0, none⟩) n c) L) : ∃ tl, RowI w g L tl ∧ n = L.length ∧ L.length ≤ c ∧ c ≤ 9223372036854775807 ∧ L.length + tl.length = c := by
 rcases h.2 with ⟨h0, _⟩ | ⟨g', c', cur, hv, _, hb, h1, h2, h3, h4⟩
 ·cases h0
 injection hv with e1 e2 e3
 injection e1 with e1; injection e1 with e1
 subst e1; subst e3; subst e2
 rw [Nat.mul_one] at h4
 refine ⟨cur.toList.drop L.length, ?_, rfl, h1, by simpa [maxLen] using h2, by simp; omega⟩
 unfold RowI
 rw [← h4, List.take_append_drop]
 exact hb
end
theorem run_clear_I (w : World) (b o n c : Nat) (hn : 0 < n)
  (hc : ∀ j, j < n → (w.cell? ⟨b, o + j, none⟩).isSome = true) (hf : ∀ j, j < n → w.frozen? ⟨b, o + j, none⟩ = false) :
  ∃ xs : List Value, xs.length = n ∧ ∀ ty, (Builtin.clear_ #[43] ty #[.slice (some ⟨b, o, none⟩) n c]).run Tryz.prog w = .ok (.tuple #[]) (w.setCells b o xs) := by
 refine ⟨(Builtin.zeroCells #[.int .i64 0] n).toList, by simp [Builtin.zeroCells], fun ty => ?_⟩
 have hst := run_storeCells_cells (P := Tryz.prog) b o (Builtin.zeroCells #[.int .i64 0] n).toList 0 w (by simpa [Builtin.zeroCells] using hc) (by simpa [Builtin.zeroCells] using hf) (by
  intro v hv
  simp only [Builtin.zeroCells, Array.toList_map, List.mem_map, Array.mem_toList_iff, Array.mem_range] at hv
  obtain ⟨i, _, rfl⟩ := hv
  simp only [List.size_toArray, List.length_cons, List.length_nil, Nat.reduceAdd, Nat.mod_one]
  rfl)
 simp only [Nat.add_zero] at hst
 obtain ⟨m, rfl⟩ : ∃ m, n = m + 1 := ⟨n - 1, by omega⟩
 have hz : (Value.int .i64 0).cells = #[.int .i64 0] := rfl
 simp [Builtin.clear_, run_underlying Tryz.underlying43, hz, hst]
def KeptI (q : Int → Bool) (M : List Int) (j i : Nat) (N : List Int) : Prop :=
 N.length = M.length ∧ i < j ∧ j ≤ M.length ∧ N.take i = (M.take j).filter (fun h => !q h) ∧ ∀ k, j ≤ k → k < M.length → N.getD k 0 = M.getD k 0
theorem getD_ltI {L : List Int} {k : Nat} (h : k < L.length) : L.getD k 0 = L[k] := by simp [List.getD_eq_getElem?_getD, List.getElem?_eq_getElem h]
theorem KeptI.start {q : Int → Bool} {M : List Int} {k : Nat} (hk : k < M.length) (h1 : q (M.getD k 0) = true) (h0 : ∀ j, j < k → q (M.getD j 0) = false) : KeptI q M (k + 1) k M := by
 refine ⟨rfl, by omega, by omega, ?_, fun _ _ _ => rfl⟩
 rw [List.take_succ_eq_append_getElem hk, List.filter_append]
 rw [getD_ltI hk] at h1
 have e : (M.take k).filter (fun h => !q h) = M.take k := by
  rw [List.filter_eq_self]
  intro x hx
  obtain ⟨j, hj, rfl⟩ := List.getElem_of_mem hx
  have hj' : j < k := by simp at hj; omega
  have := h0 j hj'
  rw [getD_ltI (by omega)] at this
  rw [List.getElem_take, this]; rfl
 rw [e]; simp [h1]
theorem KeptI.keep {q : Int → Bool} {M N : List Int} {j i : Nat} (h : KeptI q M j i N) (hj : j < M.length) (hq : q (M.getD j 0) = false) : KeptI q M (j + 1) (i + 1) (N.set i (M.getD j 0)) := by
 obtain ⟨h1, h2, h3, h4, h5⟩ := h
 refine ⟨by simp [h1], by omega, by omega, ?_, fun k hk hk2 => ?_⟩
 ·rw [getD_ltI hj] at hq ⊢
  rw [List.take_succ_eq_append_getElem hj, List.filter_append, ← h4, List.take_succ_eq_append_getElem (by simp; omega)]
  simp [hq, List.take_set]
  rw [List.set_eq_of_length_le (by simp; omega)]
 rw [← h5 k (by omega) hk2, List.getD_eq_getElem?_getD, List.getElem?_set_ne (by omega), ← List.getD_eq_getElem?_getD]
theorem KeptI.skip {q : Int → Bool} {M N : List Int} {j i : Nat} (h : KeptI q M j i N) (hj : j < M.length) (hq : q (M.getD j 0) = true) : KeptI q M (j + 1) i N := by
 obtain ⟨h1, h2, h3, h4, h5⟩ := h
 refine ⟨h1, by omega, by omega, ?_, fun k hk hk2 => h5 k (by omega) hk2⟩
 rw [List.take_succ_eq_append_getElem hj, List.filter_append, ← h4]
 rw [getD_ltI hj] at hq
 simp [hq]
theorem KeptI.done {q : Int → Bool} {M N : List Int} {i : Nat} (h : KeptI q M M.length i N) : N.take i = M.filter (fun h => !q h) ∧ i = (M.filter (fun h => !q h)).length := by
 obtain ⟨h1, h2, h3, h4, _⟩ := h
 rw [List.take_length] at h4
 exact ⟨h4, by rw [← h4]; simp; omega⟩
set_option maxRecDepth 100000 in
set_option maxHeartbeats 2000000 in
theorem indexI_any (q : Int → Bool) (g kb : Nat) (eg : ∀ args w, (callFunc g args).run Tryz.prog w = .ok (.enter g args) w) (A : Option Addr) (n c : Nat) (L : List Int) (w : World)
  (hp : ∀ (x : Int) (W : World), Chg [] w W → Calls Tryz.prog g #[.int .i64 x, .pointer (some ⟨kb, 0, none⟩)] W fun e w' => e = .returned (.bool (q x)) ∧ Chg [] W w') (hl : SlK .i64 w A n L) :
  Calls Tryz.prog 213 #[.slice A n c, .func (.func g) #[] #[.pointer (some ⟨kb, 0, none⟩)]] w fun e w' => e = .returned (.int .i64 (fstI q L)) ∧ Chg [] w w' := by
 have hlen := hl.len; have hle := hl.le
 have HL := Lib.hid hlen; clear hlen
 go_enter Tryz.func213, Tryz.ntmps213
 go_wp2
 go_loopg [5, 8] n (fun gg _ s8 wr => ∃ kk : Nat, kk ≤ n ∧ n - kk ≤ gg ∧ s8 = .int .i64 kk ∧ Aside (Chg [] w wr) ∧ Aside (∀ j, j < kk → q (L.getD j 0) = false))
 case atStart => exact ⟨0, Nat.zero_le _, by omega, rfl, Chg.refl _ w, fun j hj => absurd hj (Nat.not_lt_zero _)⟩
 obtain ⟨kk, hkk, hg, rfl, BW, HA⟩ := hrel
 by_cases hlt : kk < n
 ·have hltz : (kk : Int) < (n : Int) := by omega
  obtain ⟨b, off, rfl, hb, hc, _⟩ := (hl.chg BW.out).get hlt
  have hcall := hp (L.getD kk 0) wr BW.out
  clear hp
  generalize hy : L.getD kk 0 = y at *
  have B : Aside (L.getD kk 0 = y) := hy
  clear hy
  cases hq : q y with
  | true =>
   rw [hq] at hcall
   go_wp2_with fail
   refine hcall.mono ?_; rintro e w' ⟨rfl, hb'⟩
   go_wp2_with fail
   go_ret
   refine ⟨?_, BW.out.trans hb' (by simp)⟩
   rw [fstI_hit (by have := HL.out; omega) (by rw [B.out]; exact hq) HA.out]; rfl
  | false =>
   rw [hq] at hcall
   go_wp2_with fail
   refine hcall.mono ?_; rintro e w' ⟨rfl, hb'⟩
   go_wp2_with fail
   go_roundg (n - (kk + 1))
   case measure => omega
   refine ⟨kk + 1, by omega, by omega, by go_num, (show Aside _ from BW.out.trans hb' (by simp)), (show Aside _ from fun j hj => ?_)⟩
   by_cases e : j = kk
   ·subst e
    rw [B.out]; exact hq
   exact HA.out j (by omega)
 have hltz : ¬ (kk : Int) < (n : Int) := by omega
 have : kk = n := by omega
 subst this
 go_wp2
 go_ret
 refine ⟨?_, BW.out⟩
 rw [fstI_miss (fun j hj => HA.out j (by have := HL.out; omega))]; rfl
set_option maxHeartbeats 4000000 in
set_option maxRecDepth 100000 in
theorem deleteI_row (q : Int → Bool) (pf kb : Nat) (eg : ∀ args w, (callFunc pf args).run Tryz.prog w = .ok (.enter pf args) w) (g c : Nat) (M : List Int) (tl : List Value) (w : World)
  (hp : ∀ (x : Int) (W : World), Chg [g] w W → Calls Tryz.prog pf #[.int .i64 x, .pointer (some ⟨kb, 0, none⟩)] W fun e w' => e = .returned (.bool (q x)) ∧ Chg [] W w')
  (h : RowI w g M tl) (hs : SlK .i64 w (some ⟨g, 0, none⟩) M.length M) (hc : M.length ≤ c) (hm : c ≤ 9223372036854775807) (ht : M.length + tl.length = c) :
  Calls Tryz.prog 177 #[.slice (some ⟨g, 0, none⟩) M.length c, .func (.func pf) #[] #[.pointer (some ⟨kb, 0, none⟩)]] w fun e w' =>
   e = .returned (.slice (some ⟨g, 0, none⟩) (M.filter (fun h => !q h)).length c) ∧ Chg [g] w w' ∧ OwnI w' 3 .i64 (.slice (some ⟨g, 0, none⟩) (M.filter (fun h => !q h)).length c) (M.filter (fun h => !q h)) := by
 have hI := indexI_any q pf kb eg (some ⟨g, 0, none⟩) M.length c M w (fun h W hc => hp h W (hc.weak (by simp))) hs
 clear hs
 by_cases hall : ∀ j, j < M.length → q (M.getD j 0) = false
 ·rw [fstI_miss hall] at hI
  have e : M.filter (fun h => !q h) = M := by
   rw [List.filter_eq_self]
   intro x hx
   obtain ⟨j, hj, rfl⟩ := List.getElem_of_mem hx
   have := hall j hj
   rw [getD_ltI hj] at this
   simp [this]
  rw [e]
  have HR := Lib.hid h
  have HT := Lib.hid ht
  clear hp hall e h ht
  generalize hn : M.length = n at *
  have HN := Lib.hid hn
  clear hn
  go_enter Tryz.func177, Tryz.ntmps177
  go_wp2_with fail
  refine hI.mono ?_; rintro e w' ⟨rfl, hc1⟩
  go_wp2_with fail
  go_ret
  have hn := HN.out
  subst hn
  refine ⟨rfl, hc1.weak (by simp), ?_⟩
  exact (HR.out.chg hc1 (by simp)).own c hc HT.out hm
 obtain ⟨k0, hk0, hq0, hmin⟩ : ∃ k, k < M.length ∧ q (M.getD k 0) = true ∧ ∀ j, j < k → q (M.getD j 0) = false := by
  have : ∃ k, k < M.length ∧ q (M.getD k 0) = true := by
   refine Classical.byContradiction fun hne => hall fun j hj => ?_
   cases hx : q (M.getD j 0) with
   | false => rfl
   | true => exact absurd ⟨j, hj, hx⟩ hne
  obtain ⟨k, ⟨hk1, hk2⟩, hleast⟩ := exists_least this
  refine ⟨k, hk1, hk2, fun j hj => ?_⟩
  cases hx : q (M.getD j 0) with
  | false => rfl
  | true => exact absurd (hleast j ⟨by omega, hx⟩) (by omega)
 rw [fstI_hit hk0 hq0 hmin] at hI
 have hK := KeptI.start hk0 hq0 hmin
 have HK := Lib.hid hK
 have hne1 : ((k0 : Int) == -1) = false := beq_eq_false_iff_ne.2 (by omega)
 have HR := Lib.hid h
 have HP := Lib.hid hp
 clear hall hq0 hmin hK h hp
 have hn9 : M.length ≤ 9223372036854775807 := by omega
 generalize hn : M.length = n at *
 have HN := Lib.hid hn
 have HT := Lib.hid ht
 clear hn ht
 go_enter Tryz.func177, Tryz.ntmps177
 go_wp2_with fail
 refine hI.mono ?_; rintro e w' ⟨rfl, hc1⟩
 go_wp2_with fail
 go_loopg [5, 6, 7] n (fun gg s5 s6 _ wr => ∃ (i j : Nat) (N : List Int), s5 = .int .i64 i ∧ s6 = .int .i64 j ∧ j ≤ n ∧ n - j ≤ gg ∧ Aside (Chg [g] w wr) ∧ Aside (RowI wr g N tl) ∧ Aside (KeptI q M j i N))
 case atStart => exact ⟨k0, k0 + 1, M, rfl, by go_num, by omega, by omega, hc1.weak (by simp), HR.out.chg hc1 (by simp), HK.out⟩
 obtain ⟨i, j, N, rfl, rfl, hjd, hgg, HC, HW, HKK⟩ := hrel
 have hij := HKK.out.2.1
 have hNl := HKK.out.1
 by_cases hlt : j < n
 ·have hltz : (j : Int) < (n : Int) := by omega
  have hjN : j < N.length := by have := HN.out; omega
  have hcj := HW.out.cell hjN
  have hgj := HKK.out.2.2.2.2 j (Nat.le_refl _) (by have := HN.out; omega)
  rw [hgj] at hcj
  clear hgj hNl
  generalize hy : M.getD j 0 = y at *
  have B : Aside (M.getD j 0 = y) := hy
  clear hy
  have hcall := HP.out y wr HC.out
  cases hq : q y with
  | false =>
   rw [hq] at hcall
   go_wp2_with fail
   refine hcall.mono ?_; rintro e w3 ⟨rfl, hc3⟩
   have hrow3 := HW.out.chg hc3 (by simp)
   have hch3 := HC.out.trans hc3 (by simp)
   have d0 := hrow3.cell (show i < N.length by omega)
   have f0 := hrow3.frozen i
   have HR3 := Lib.hid hrow3; have HC3 := Lib.hid hch3
   have HQ := Lib.hid hq
   clear hcj hcall hc3 hrow3 hch3 hq
   go_wp2_with fail
   go_roundg (n - (j + 1))
   case measure => omega
   have hkk := HKK.out.keep (by have := HN.out; omega) (by rw [B.out]; exact HQ.out)
   rw [B.out] at hkk
   exact ⟨i + 1, j + 1, N.set i y, by go_num, by go_num, by omega, Nat.le_refl _, HC3.out.setCell (p := ⟨g, i, none⟩) (by simp) _, HR3.out.set (by omega) y, hkk⟩
  | true =>
   rw [hq] at hcall
   go_wp2_with fail
   refine hcall.mono ?_; rintro e w3 ⟨rfl, hc3⟩
   have hrow3 := HW.out.chg hc3 (by simp)
   have hch3 := HC.out.trans hc3 (by simp)
   clear hcall hcj
   go_wp2_with fail
   go_roundg (n - (j + 1))
   case measure => omega
   case rel => exact ⟨i, j + 1, N, rfl, by go_num, by omega, Nat.le_refl _, hch3, hrow3, HKK.out.skip (by have := HN.out; omega) (by rw [B.out]; exact hq)⟩
 obtain rfl : j = n := by omega
 have hltz : ¬ (j : Int) < (j : Int) := by omega
 have hjN : N.length = j := by have := HN.out; omega
 obtain ⟨xs, hx, hcl⟩ := run_clear_I wr g i (j - i) (c - i) (by omega)
  (fun k hk => by rw [HW.out.cell (by omega)]; rfl) (fun k _ => HW.out.frozen _)
 have HX := Lib.hid hx
 have HJ := Lib.hid hjN
 clear hx hjN hNl
 go_wp2_with fail
 go_ret
 have hd := HKK.out
 have hM := HN.out
 rw [← hM] at hd
 obtain ⟨e1, e2⟩ := hd.done
 have hB2 := setCells_V xs i _ _ HW.out (by simp [vals_len, HX.out, HJ.out]; omega)
 have hV : setV (vals .i64 N ++ tl) i xs = vals .i64 (N.take i) ++ (xs ++ tl) := by
  have l1 : (vals .i64 (N.take i)).length = i := by rw [vals_len]; simp; have := HJ.out; omega
  have e : vals .i64 N = vals .i64 (N.take i) ++ vals .i64 (N.drop i) := by rw [← vals_app, List.take_append_drop]
  have l2 : (vals .i64 (N.drop i)).length = xs.length := by rw [vals_len, HX.out]; simp [HJ.out]
  rw [e, setV_mid l1 l2]
 rw [hV, e1] at hB2
 rw [← e2]
 refine ⟨rfl, Chg.setCells (by simp) _ _ _ HC.out, ?_⟩
 have := RowI.own (M := M.filter (fun h => !q h)) (tl := xs ++ tl) hB2 c (by omega) (by have := HT.out; have := HX.out; have := HJ.out; simp; omega) hm
 rwa [← e2] at this
theorem deleteI_any (q : Int → Bool) (pf kb : Nat) (eg : ∀ args w, (callFunc pf args).run Tryz.prog w = .ok (.enter pf args) w) (v : Value) (L : List Int) (w : World) (hL : ∀ x ∈ L, IntKind.i64.min ≤ x ∧ x ≤ IntKind.i64.max)
  (hp : ∀ (x : Int) (W : World), Chg v.ownBlock.toList w W → Calls Tryz.prog pf #[.int .i64 x, .pointer (some ⟨kb, 0, none⟩)] W fun e w' => e = .returned (.bool (q x)) ∧ Chg [] W w') (h : OwnI w 3 .i64 v L) :
  Calls Tryz.prog 177 #[v, .func (.func pf) #[] #[.pointer (some ⟨kb, 0, none⟩)]] w fun e w' =>
   ∃ v', e = .returned v' ∧ Chg v.ownBlock.toList w w' ∧ OwnI w' 3 .i64 v' (L.filter (fun h => !q h)) ∧ v'.ownBlock = v.ownBlock := by
 by_cases h0 : 0 < L.length
 ·obtain ⟨g, c, rfl, h1, h2⟩ := h.pos_ h0
  obtain ⟨tl, hr, _, hc1, hc2, hc3⟩ := h.rowI
  refine (deleteI_row q pf kb eg g c L tl w (fun h W hc => hp h W (hc.weak (by simp [Value.ownBlock]))) hr (h.slk hL (by omega)) hc1 hc2 hc3).mono fun e w' ⟨he, hc, ho⟩ => ?_
  exact ⟨_, he, hc.weak (by simp [Value.ownBlock]), ho, rfl⟩
 obtain rfl : L = [] := List.eq_nil_of_length_eq_zero (by omega)
 obtain ⟨A, c, rfl⟩ := h.form
 have hI := indexI_any q pf kb eg A 0 c [] w (fun h W hc => hp h W (hc.weak (by simp))) ⟨rfl, by omega, by simp, fun h => absurd h (by omega)⟩
 have e0 : fstI q [] = -1 := rfl
 rw [e0] at hI
 have HH := Lib.hid h
 clear hp h h0
 simp only [List.length_nil, List.filter_nil]
 go_enter Tryz.func177, Tryz.ntmps177
 go_wp2_with fail
 refine hI.mono ?_; rintro e w' ⟨rfl, hc1⟩
 go_wp2_with fail
 go_ret
 exact ⟨_, rfl, hc1.weak (by simp), HH.out.chg hc1 (by simp), rfl⟩
end Go.Proofs.YtmbgepafpcbakaaGreatDoor
namespace Go.Proofs.YtmbgepafpcbakaaGreatDoor
open Go.RowKit Go.Maps
theorem SrOk.new {n a m : Nat} {W : List Int} (h : a + m ≤ n) (hn : n ≤ 256) (hW : W.length = 8 * n) : SrOk n a m ⟨[], dnk a m, W⟩ :=
 ⟨h, hn, hW, by simpa using dnk_nodup a m, fun f hf => by simp at hf; exact (mem_dnk a f m).1 hf, by simp [dnk_len], by simp, by simp, by simp, by simp, by simp⟩
set_option maxRecDepth 100000 in
set_option maxHeartbeats 2000000 in
theorem Snew_yes (hp hb n : Nat) (W : List Int) (a m : Nat) (w : World) (hM : MemAt w hp hb n W) (hB : a + m ≤ n) :
  Calls Tryz.prog 49 #[.pointer (some ⟨hp, 0, none⟩), .int .i64 a, .int .i64 m] w fun e w' => ∃ q S, e = .returned (.pointer (some ⟨q, 0, none⟩)) ∧ StIn w' S q hp hb n a m ⟨[], dnk a m, W⟩ ∧ SrOk n a m ⟨[], dnk a m, W⟩ ∧ Chg [] w w' ∧ ∀ i ∈ S, w.heap.size ≤ i := by
 have hn := hM.le
 have hF := FNew_at a m w (by omega)
 have hgt : ¬ (n : Int) < (a : Int) + m := by omega
 have hsum : wrap64 ((a : Int) + m) = (a : Int) + m := by unfold wrap64; omega
 have hFr := fun w' (y : Chg [] w w') => Frames_at hp hb n W w' ⟨hM.st.chg_ y (by simp), hM.ws.chg_ y (by simp), hM.len, hM.pos, hM.le⟩
 have hd : decide ((a : Int) + m > n) = false := by simp; omega
 have HM := Lib.hid hM
 have HB := Lib.hid hB
 have hmm := @run_makeMap Tryz.prog
 clear hM hB
 go_enter Tryz.func49, Tryz.ntmps49
 go_wp2_with fail
 refine hF.mono ?_; rintro e w2 ⟨p, FS, rfl, y, hfl, hnew⟩
 go_wp2_with fail
 refine (hFr _ y).mono ?_; rintro e w3 ⟨rfl, rfl⟩
 go_wp2_with fail
 go_ret
 have y1 : Chg [] w (w2.alloc (.map #[] 0)) := y.alloc _
 have y2 := y1.alloc (.cells #[.pointer (some ⟨hp, 0, none⟩), .pointer (some ⟨p, 0, none⟩), .map (some w2.heap.size), .slice none 0 0] 195)
 have hz2 : (w2.alloc (.map #[] 0)).heap.size = w2.heap.size + 1 := by simp
 have hlt := hfl.lt
 have h0 := y.size
 have m1 := HM.out.st.lt; have m2 := HM.out.ws.lt
 have f1 : Chg [] w2 ((w2.alloc (.map #[] 0)).alloc (.cells #[.pointer (some ⟨hp, 0, none⟩), .pointer (some ⟨p, 0, none⟩), .map (some w2.heap.size), .slice none 0 0] 195)) := ((Chg.refl [] w2).alloc _).alloc _
 refine ⟨_, _, rfl, ⟨p, w2.heap.size, FS, .slice none 0 0, [], ⟨?_, hfl.chg f1 (by simp), ?_, OwnI.none_ _ _ _, rfl, by simp, by simp, ⟨HM.out.st.chg_ y2 (by simp), HM.out.ws.chg_ y2 (by simp), HM.out.len, HM.out.pos, HM.out.le⟩, by simp, by simp, by simp, ⟨fun hm => ?_, fun hm => ?_, by simp [Value.ownBlock], by simp⟩, fun hm => ?_, fun hm => ?_⟩, rfl⟩, SrOk.new HB.out hn HM.out.len, y2, ?_⟩
 ·have := Blk.new (w2.alloc (.map #[] 0)) 195 #[.pointer (some ⟨hp, 0, none⟩), .pointer (some ⟨p, 0, none⟩), .map (some w2.heap.size), .slice none 0 0]
  rw [hz2] at this
  exact this
 ·exact ((PtrM.made w2 Tryz.prog 3).chg ((Chg.refl [] _).alloc _) (by simp)).congr fun _ => rfl
 ·have := hlt _ hm; omega
 ·have := hlt _ hm; omega
 ·have := hnew _ hm; omega
 ·have := hnew _ hm; omega
 intro i hi
 simp only [stS, Value.ownBlock, Option.toList_none, List.nil_append, List.append_nil, List.mem_cons] at hi
 rcases hi with rfl | rfl | hi
 ·omega
 ·exact h0
 exact hnew i hi
section
variable {q hp hb n a m fp mp : Nat} {s : Sr} {FS B : List Nat} {v : Value}
set_option maxRecDepth 100000 in
set_option maxHeartbeats 2000000 in
theorem Sclear_any (p i : Int) (w : World) (h : StX w q hp hb n a m s fp mp FS v B) (hp' : -9223372036854775808 ≤ p ∧ p ≤ 9223372036854775807) :
  Calls Tryz.prog 180 #[.pointer (some ⟨q, 0, none⟩), .int .i64 p, .int .i64 i] w fun e w' => e = .returned (.bool (clearB s p i)) ∧ StX w' q hp hb n a m (clearS n s p i) fp mp FS v B ∧ Chg (hb :: B) w w' := by
 have hS := Sslot_any p i w h hp'
 unfold slotV at hS
 cases e : slotP s.L p i with
 | none =>
  have hc : clearB s p i = false := by unfold clearB; rw [e]
  have hcs : clearS n s p i = s := by unfold clearS; rw [hc]; rfl
  rw [hcs, hc]
  rw [e] at hS
  simp only [Option.getD_none, Option.isSome_none, Slt.cl, Slt.no] at hS
  clear e hc hcs
  go_enter Tryz.func180, Tryz.ntmps180
  go_wp2_with fail
  refine hS.mono ?_; rintro e w2 ⟨rfl, y⟩
  clear hS
  go_wp2_with fail
  go_ret
  exact ⟨rfl, h.new (y.alloc _), (y.alloc _).weak (by simp)⟩
 | some x =>
  have hs := slot_hasS e
  have hlay := fun w' (y : Chg [] w w') => Slay_any p i Slt.no 0 w' (h.new y) hs
  rw [e] at hS
  simp only [Option.getD_some, Option.isSome_some, Slt.cl, Slt.no] at hS hlay
  by_cases hk : x.kind = 0
  ·have hc : clearB s p i = false := by unfold clearB; rw [e]; simp [hk]
   have hcs : clearS n s p i = s := by unfold clearS; rw [hc]; rfl
   rw [hcs, hc]
   have hkb : (x.kind == 0) = true := by simpa using hk
   clear e hc hcs hlay hk
   go_enter Tryz.func180, Tryz.ntmps180
   go_wp2_with fail
   refine hS.mono ?_; rintro e w2 ⟨rfl, y⟩
   clear hS
   go_wp2_with fail
   go_ret
   exact ⟨rfl, h.new (y.alloc _), (y.alloc _).weak (by simp)⟩
  have hc : clearB s p i = true := by unfold clearB; rw [e]; simp [hk]
  have hcs : clearS n s p i = setS n s p i Slt.no 0 := by unfold clearS; rw [hc]; rfl
  rw [hcs, hc]
  have hkb : (x.kind == 0) = false := by simpa using hk
  clear e hc hcs hk
  go_enter Tryz.func180, Tryz.ntmps180
  go_wp2_with fail
  refine hS.mono ?_; rintro e w2 ⟨rfl, y⟩
  clear hS
  go_wp2_with fail
  refine (hlay _ (y.alloc _)).mono ?_; rintro e w3 ⟨rfl, h3, y3⟩
  clear hlay
  go_wp2_with fail
  go_ret
  exact ⟨rfl, h3, ((y.alloc _).weak (by simp)).trans y3 (fun _ _ hm => hm)⟩
set_option maxRecDepth 100000 in
set_option maxHeartbeats 4000000 in
theorem Schild_any (p i c : Int) (r : Rg) (w : World) (h : StX w q hp hb n a m s fp mp FS v B) (hok : SrOk n a m s) (hp' : -9223372036854775808 ≤ p ∧ p ≤ 9223372036854775807) (hc' : -9223372036854775808 ≤ c ∧ c ≤ 9223372036854775807) :
  Calls Tryz.prog 162 #[.pointer (some ⟨q, 0, none⟩), .int .i64 p, .int .i64 i, .int .i64 c, .agg r.cs] w fun e w' => e = .returned (.bool (childB s p i c)) ∧ StX w' q hp hb n a m (childS n s p i c r) fp mp FS v B ∧ Chg (hb :: B) w w' := by
 have hcB : childB s p i c = (hasS s p i && (pgAt s.L c).isSome && decide (levP s.L c = levP s.L p - 1)) := rfl
 have hcS : childS n s p i c r = if childB s p i c then setS n s p i ⟨1, c, r⟩ c else s := rfl
 obtain ⟨rw_, ru, rx⟩ := r
 simp only [Rg.cs] at *
 have y0 := (Chg.refl [] w).alloc (.cells #[.bool rw_, .bool ru, .bool rx] 54)
 have r0 := Blk.new w 54 #[.bool rw_, .bool ru, .bool rx]
 have h1 := h.new y0
 have hHas := fun w' (y : Chg [] w w') => Shas_any p i w' (h.new y) hp'
 have hlay := fun (hs : hasS s p i = true) w' (y : Chg [] w w') => Slay_any p i ⟨1, c, ⟨rw_, ru, rx⟩⟩ c w' (h.new y) hs
 simp only [Slt.cl] at hlay
 obtain ⟨c0, c1, c2, c3⟩ := h1.c4
 have hLc := h1.look c hc'
 have hFc := blkF_none (f := c) h.bl
 generalize hW1 : w.alloc (.cells #[.bool rw_, .bool ru, .bool rx] 54) = w1 at *
 cases hz : hasS s p i with
 | false =>
  rw [hz] at hcB hHas
  simp only [Bool.false_and] at hcB
  rw [hcB] at hcS
  simp only [Bool.false_eq_true, if_false] at hcS
  rw [hcB, hcS]
  clear hlay
  cases hcp : blkF s.L B c with
  | none =>
   rw [hcp] at hLc
   simp only [ptrO] at hLc
   go_enter Tryz.func162, Tryz.ntmps162
   go_wp2_with fail
   refine wp_region_noPanic ?_
   refine wp_region_held_drew (S := (fun w' => Chg [] w1 w')) (by kernel_rfl) ?_ (fun hHeld => ?_)
   ·exact ((Chg.refl [] w1).drew)
   refine tq 0 18 _ ?_
   refine tq 1 19 _ ?_
   refine tq 2 20 _ ?_
   (try simp only [Act.put, qI, qO, qU])
   refine rdy 3 fun K hK => ?_
   go_simp
   (go_at_call 98; refine (hHas _ (y0.trans hHeld (by simp))).mono ?_; rintro e u1 ⟨rfl, rfl⟩)
   refine hK.out _ _ (by (try dsimp only); exact hHeld) (fun hHeld => ?_)
   clear hK K
   (try simp only [Act.put, qI, qO, qU])
   refine tq 4 22 _ ?_
   refine tq 5 23 _ ?_
   (try simp only [Act.put, qI, qO, qU])
   (refine tko 6 24 ?_)
   (refine tko 7 25 ?_)
   refine tq 8 26 _ ?_
   refine tq 9 27 _ ?_
   (try simp only [Act.put, qI, qO, qU])
   (refine tko 10 28 ?_)
   (refine tko 11 29 ?_)
   (refine tko 12 30 ?_)
   (refine tko 13 31 ?_)
   (try simp only [Act.put, qI, qO, qU])
   (refine tko 14 32 ?_)
   (refine tko 15 33 ?_)
   (refine tko 16 34 ?_)
   (refine tko 17 35 ?_)
   (try simp only [Act.put, qI, qO, qU])
   (refine tko 18 36 ?_)
   (refine tko 19 37 ?_)
   (refine tko 20 38 ?_)
   (refine tko 21 39 ?_)
   (try simp only [Act.put, qI, qO, qU])
   (refine tko 22 40 ?_)
   (refine tko 23 41 ?_)
   (refine tko 24 42 ?_)
   (refine tko 25 43 ?_)
   (try simp only [Act.put, qI, qO, qU])
   (refine tko 26 44 ?_)
   refine tq 27 45 _ ?_
   (try simp only [Act.put, qI, qO, qU])
   refine wpAnyH_done (by kernel_rfl) ?_ _
   refine NoPanic.normal ?_
   go_wp2_with fail
   go_ret
   exact ⟨rfl, h1.new ((Chg.refl [] w1).drew), y0.drew.weak (by simp)⟩
  | some cb =>
   rw [hcp] at hLc
   simp only [ptrO] at hLc
   go_enter Tryz.func162, Tryz.ntmps162
   go_wp2_with fail
   refine wp_region_noPanic ?_
   refine wp_region_held_drew (S := (fun w' => Chg [] w1 w')) (by kernel_rfl) ?_ (fun hHeld => ?_)
   ·exact ((Chg.refl [] w1).drew)
   refine tq 0 18 _ ?_
   refine tq 1 19 _ ?_
   refine tq 2 20 _ ?_
   (try simp only [Act.put, qI, qO, qU])
   refine rdy 3 fun K hK => ?_
   go_simp
   (go_at_call 98; refine (hHas _ (y0.trans hHeld (by simp))).mono ?_; rintro e u1 ⟨rfl, rfl⟩)
   refine hK.out _ _ (by (try dsimp only); exact hHeld) (fun hHeld => ?_)
   clear hK K
   (try simp only [Act.put, qI, qO, qU])
   refine tq 4 22 _ ?_
   (try simp only [Act.put, qI, qO, qU])
   refine tq 5 23 _ ?_
   (refine tko 6 24 ?_)
   (refine tko 7 25 ?_)
   refine tq 8 26 _ ?_
   (try simp only [Act.put, qI, qO, qU])
   refine tq 9 27 _ ?_
   (refine tko 10 28 ?_)
   (refine tko 11 29 ?_)
   (refine tko 12 30 ?_)
   (try simp only [Act.put, qI, qO, qU])
   (refine tko 13 31 ?_)
   (refine tko 14 32 ?_)
   (refine tko 15 33 ?_)
   (refine tko 16 34 ?_)
   (try simp only [Act.put, qI, qO, qU])
   (refine tko 17 35 ?_)
   (refine tko 18 36 ?_)
   (refine tko 19 37 ?_)
   (refine tko 20 38 ?_)
   (try simp only [Act.put, qI, qO, qU])
   (refine tko 21 39 ?_)
   (refine tko 22 40 ?_)
   (refine tko 23 41 ?_)
   (refine tko 24 42 ?_)
   (try simp only [Act.put, qI, qO, qU])
   (refine tko 25 43 ?_)
   (refine tko 26 44 ?_)
   refine tq 27 45 _ ?_
   (try simp only [Act.put, qI, qO, qU])
   refine wpAnyH_done (by kernel_rfl) ?_ _
   refine NoPanic.normal ?_
   go_wp2_with fail
   go_ret
   exact ⟨rfl, h1.new ((Chg.refl [] w1).drew), y0.drew.weak (by simp)⟩
 | true =>
  rw [hz] at hcB hHas
  simp only [Bool.true_and] at hcB
  replace hlay := hlay hz
  cases hcp : blkF s.L B c with
  | none =>
   rw [hFc.1 hcp] at hcB
   simp only [Option.isSome_none, Bool.false_and] at hcB
   rw [hcB] at hcS
   simp only [Bool.false_eq_true, if_false] at hcS
   rw [hcB, hcS]
   rw [hcp] at hLc
   simp only [ptrO] at hLc
   clear hlay
   go_enter Tryz.func162, Tryz.ntmps162
   go_wp2_with fail
   refine wp_region_noPanic ?_
   refine wp_region_held_drew (S := (fun w' => Chg [] w1 w')) (by kernel_rfl) ?_ (fun hHeld => ?_)
   ·exact ((Chg.refl [] w1).drew)
   refine tq 0 18 _ ?_
   refine tq 1 19 _ ?_
   (try simp only [Act.put, qI, qO, qU])
   refine tq 2 20 _ ?_
   (try simp only [Act.put, qI, qO, qU])
   refine rdy 3 fun K hK => ?_
   go_simp
   (go_at_call 98; refine (hHas _ (y0.trans hHeld (by simp))).mono ?_; rintro e u1 ⟨rfl, rfl⟩)
   refine hK.out _ _ (by (try dsimp only); exact hHeld) (fun hHeld => ?_)
   clear hK K
   (try simp only [Act.put, qI, qO, qU])
   refine tq 4 22 _ ?_
   refine tq 5 23 _ ?_
   refine tq 6 24 _ ?_
   refine tq 7 25 _ ?_
   (try simp only [Act.put, qI, qO, qU])
   refine tq 8 26 _ ?_
   refine tq 9 27 _ ?_
   (refine tko 10 28 ?_)
   (refine tko 11 29 ?_)
   (try simp only [Act.put, qI, qO, qU])
   (refine tko 12 30 ?_)
   (refine tko 13 31 ?_)
   (refine tko 14 32 ?_)
   (refine tko 15 33 ?_)
   (try simp only [Act.put, qI, qO, qU])
   (refine tko 16 34 ?_)
   (refine tko 17 35 ?_)
   (refine tko 18 36 ?_)
   (refine tko 19 37 ?_)
   (try simp only [Act.put, qI, qO, qU])
   (refine tko 20 38 ?_)
   (refine tko 21 39 ?_)
   (refine tko 22 40 ?_)
   (refine tko 23 41 ?_)
   (try simp only [Act.put, qI, qO, qU])
   (refine tko 24 42 ?_)
   (refine tko 25 43 ?_)
   (refine tko 26 44 ?_)
   refine tq 27 45 _ ?_
   (try simp only [Act.put, qI, qO, qU])
   refine wpAnyH_done (by kernel_rfl) ?_ _
   refine NoPanic.normal ?_
   go_wp2_with fail
   go_ret
   exact ⟨rfl, h1.new ((Chg.refl [] w1).drew), y0.drew.weak (by simp)⟩
  | some cb =>
   obtain ⟨gc, hgc⟩ : ∃ gc, pgAt s.L c = some gc := by
    cases e : pgAt s.L c with
    | none => rw [hFc.2 e] at hcp; cases hcp
    | some g => exact ⟨g, rfl⟩
   obtain ⟨jc, cb', _, _, e3, hPc, _⟩ := h.at_ hgc
   rw [hcp] at e3; injection e3 with e3; subst e3
   obtain ⟨gp, egp, hgm, hgf, i0, i7, _, _, _⟩ := hasS_has hok hz
   obtain ⟨jp, pb, _, _, e4, hPp, _⟩ := h.at_ egp
   have hLp := fun w' (y : Chg [] w w') => (h.new y).look p hp'
   rw [e4] at hLp
   rw [hcp] at hLc
   simp only [ptrO] at hLc hLp
   have hlc : levP s.L c = gc.k.lev := by unfold levP; rw [hgc]; rfl
   have hlp : levP s.L p = gp.k.lev := by unfold levP; rw [egp]; rfl
   have hrp := hok.right gp hgm
   unfold Ky.right at hrp
   rw [decide_eq_true_eq] at hrp
   have hsub : IntKind.i64.wrap (gp.k.lev - 1) = gp.k.lev - 1 := IntWalk.i64_in _ (by omega)
   rw [hlc, hlp, hgc] at hcB
   simp only [Option.isSome_some, Bool.true_and] at hcB
   have hqst := h.st
   clear hlc hlp hrp hgc egp hgm hgf e4
   by_cases hlv : gc.k.lev = gp.k.lev - 1
   ·have hne : (gc.k.lev != gp.k.lev - 1) = false := by simp [hlv]
    rw [decide_eq_true hlv] at hcB
    rw [hcB] at hcS
    simp only [if_true] at hcS
    rw [hcB, hcS]
    go_enter Tryz.func162, Tryz.ntmps162
    go_wp2_with fail
    refine wp_region_noPanic ?_
    refine wp_region_held_drew (S := (fun w' => Chg [] w1 w')) (by kernel_rfl) ?_ (fun hHeld => ?_)
    ·exact ((Chg.refl [] w1).drew)
    refine tq 0 18 _ ?_
    (try simp only [Act.put, qI, qO, qU])
    refine tq 1 19 _ ?_
    refine tq 2 20 _ ?_
    (try simp only [Act.put, qI, qO, qU])
    refine rdy 3 fun K hK => ?_
    go_simp
    (go_at_call 98; refine (hHas _ (y0.trans hHeld (by simp))).mono ?_; rintro e u1 ⟨rfl, rfl⟩)
    refine hK.out _ _ (by (try dsimp only); exact hHeld) (fun hHeld => ?_)
    clear hK K
    (try simp only [Act.put, qI, qO, qU])
    refine tq 4 22 _ ?_
    refine tq 5 23 _ ?_
    refine tq 6 24 _ ?_
    (try simp only [Act.put, qI, qO, qU])
    refine tq 7 25 _ ?_
    refine tq 8 26 _ ?_
    refine tq 9 27 _ ?_
    refine tq 10 28 _ ?_
    (try simp only [Act.put, qI, qO, qU])
    refine tq 11 29 _ ?_
    refine tq 12 30 _ ?_
    refine tq 13 31 _ ?_
    (refine tk 14 32 ?_ ?_ ?_; rotate_left; · (intro w hSw; (try dsimp only at hSw); have b_ := Blk.chg_ hPc (y0.trans hSw (by simp)) (by simp); obtain ⟨_, _, d2, _⟩ := PgB.head b_; go_simp; (try with_reducible rfl)))
    (try simp only [Act.put, qI, qO, qU])
    refine tq 15 33 _ ?_
    refine tq 16 34 _ ?_
    refine tq 17 35 _ ?_
    (refine tk 18 36 ?_ ?_ ?_; rotate_left; · (intro w hSw; (try dsimp only at hSw); have b_ := (hqst.chg_ (y0.trans hSw (by simp)) (by simp)).cell 2; simp only [qA, qS, qZ] at b_; go_simp; (try with_reducible rfl)))
    (try simp only [Act.put, qI, qO, qU])
    refine tq 19 37 _ ?_
    (refine tk 20 38 ?_ ?_ ?_; rotate_left; · (intro w hSw; (try dsimp only at hSw); have hlk_ := hLp w (y0.trans hSw (by simp)); go_simp; (try with_reducible rfl)))
    refine tq 21 39 _ ?_
    refine tq 22 40 _ ?_
    (try simp only [Act.put, qI, qO, qU])
    refine tq 23 41 _ ?_
    (refine tk 24 42 ?_ ?_ ?_; rotate_left; · (intro w hSw; (try dsimp only at hSw); have b_ := Blk.chg_ hPp (y0.trans hSw (by simp)) (by simp); obtain ⟨_, _, d2, _⟩ := PgB.head b_; go_simp; (try with_reducible rfl)))
    refine tq 25 43 _ ?_
    refine tq 26 44 _ ?_
    (try simp only [Act.put, qI, qO, qU])
    refine tq 27 45 _ ?_
    (try simp only [Act.put, qI, qO, qU])
    refine wpAnyH_done (by kernel_rfl) ?_ _
    refine NoPanic.normal ?_
    have x0 := r0.cell 0; have x1 := r0.cell 1; have x2 := r0.cell 2
    simp only [qA, qZ, qS] at x0 x1 x2
    go_wp2_with fail
    refine (hlay _ y0.drew).mono ?_; rintro e w3 ⟨rfl, h3, y3⟩
    clear hlay
    go_wp2_with fail
    go_ret
    exact ⟨rfl, h3, (y0.drew.weak (by simp)).trans y3 (fun _ _ hm => hm)⟩
   have hne : (gc.k.lev != gp.k.lev - 1) = true := by simp [hlv]
   rw [decide_eq_false hlv] at hcB
   rw [hcB] at hcS
   simp only [Bool.false_eq_true, if_false] at hcS
   rw [hcB, hcS]
   clear hlay
   go_enter Tryz.func162, Tryz.ntmps162
   go_wp2_with fail
   refine wp_region_noPanic ?_
   refine wp_region_held_drew (S := (fun w' => Chg [] w1 w')) (by kernel_rfl) ?_ (fun hHeld => ?_)
   ·exact ((Chg.refl [] w1).drew)
   refine tq 0 18 _ ?_
   refine tq 1 19 _ ?_
   refine tq 2 20 _ ?_
   (try simp only [Act.put, qI, qO, qU])
   refine rdy 3 fun K hK => ?_
   go_simp
   (go_at_call 98; refine (hHas _ (y0.trans hHeld (by simp))).mono ?_; rintro e u1 ⟨rfl, rfl⟩)
   refine hK.out _ _ (by (try dsimp only); exact hHeld) (fun hHeld => ?_)
   clear hK K
   (try simp only [Act.put, qI, qO, qU])
   refine tq 4 22 _ ?_
   refine tq 5 23 _ ?_
   (try simp only [Act.put, qI, qO, qU])
   refine tq 6 24 _ ?_
   refine tq 7 25 _ ?_
   refine tq 8 26 _ ?_
   refine tq 9 27 _ ?_
   (try simp only [Act.put, qI, qO, qU])
   refine tq 10 28 _ ?_
   refine tq 11 29 _ ?_
   refine tq 12 30 _ ?_
   refine tq 13 31 _ ?_
   (try simp only [Act.put, qI, qO, qU])
   (refine tk 14 32 ?_ ?_ ?_; rotate_left; · (intro w hSw; (try dsimp only at hSw); have b_ := Blk.chg_ hPc (y0.trans hSw (by simp)) (by simp); obtain ⟨_, _, d2, _⟩ := PgB.head b_; go_simp; (try with_reducible rfl)))
   refine tq 15 33 _ ?_
   refine tq 16 34 _ ?_
   refine tq 17 35 _ ?_
   (try simp only [Act.put, qI, qO, qU])
   (refine tk 18 36 ?_ ?_ ?_; rotate_left; · (intro w hSw; (try dsimp only at hSw); have b_ := (hqst.chg_ (y0.trans hSw (by simp)) (by simp)).cell 2; simp only [qA, qS, qZ] at b_; go_simp; (try with_reducible rfl)))
   refine tq 19 37 _ ?_
   (refine tk 20 38 ?_ ?_ ?_; rotate_left; · (intro w hSw; (try dsimp only at hSw); have hlk_ := hLp w (y0.trans hSw (by simp)); go_simp; (try with_reducible rfl)))
   refine tq 21 39 _ ?_
   (try simp only [Act.put, qI, qO, qU])
   refine tq 22 40 _ ?_
   refine tq 23 41 _ ?_
   (refine tk 24 42 ?_ ?_ ?_; rotate_left; · (intro w hSw; (try dsimp only at hSw); have b_ := Blk.chg_ hPp (y0.trans hSw (by simp)) (by simp); obtain ⟨_, _, d2, _⟩ := PgB.head b_; go_simp; (try with_reducible rfl)))
   refine tq 25 43 _ ?_
   (try simp only [Act.put, qI, qO, qU])
   refine tq 26 44 _ ?_
   refine tq 27 45 _ ?_
   (try simp only [Act.put, qI, qO, qU])
   refine wpAnyH_done (by kernel_rfl) ?_ _
   refine NoPanic.normal ?_
   go_wp2_with fail
   go_ret
   exact ⟨rfl, h1.new ((Chg.refl [] w1).drew), y0.drew.weak (by simp)⟩
set_option maxRecDepth 100000 in
set_option maxHeartbeats 4000000 in
theorem Sleaf_any (p i g x : Int) (r : Rg) (w : World) (h : StX w q hp hb n a m s fp mp FS v B) (hok : SrOk n a m s) (hp' : -9223372036854775808 ≤ p ∧ p ≤ 9223372036854775807) :
  Calls Tryz.prog 165 #[.pointer (some ⟨q, 0, none⟩), .int .i64 p, .int .i64 i, .int .i64 g, .int .i64 x, .agg r.cs] w fun e w' => e = .returned (.bool (leafB n s p i x)) ∧ StX w' q hp hb n a m (leafS n s p i g x r) fp mp FS v B ∧ Chg (hb :: B) w w' := by
 have hcB : leafB n s p i x = (hasS s p i && decide (levP s.L p = 1) && decide (0 ≤ x ∧ x < n)) := rfl
 have hcS : leafS n s p i g x r = if leafB n s p i x then setS n s p i ⟨2, g, r⟩ x else s := rfl
 obtain ⟨rw_, ru, rx⟩ := r
 simp only [Rg.cs] at *
 have y0 := (Chg.refl [] w).alloc (.cells #[.bool rw_, .bool ru, .bool rx] 54)
 have r0 := Blk.new w 54 #[.bool rw_, .bool ru, .bool rx]
 have h1 := h.new y0
 have hHas := fun w' (y : Chg [] w w') => Shas_any p i w' (h.new y) hp'
 have hlay := fun (hs : hasS s p i = true) w' (y : Chg [] w w') => Slay_any p i ⟨2, g, ⟨rw_, ru, rx⟩⟩ x w' (h.new y) hs
 simp only [Slt.cl] at hlay
 obtain ⟨c0, c1, c2, c3⟩ := h1.c4
 have hFr := fun w' (y : Chg [] w w') => Frames_at hp hb n s.W w' (h.new y).hm
 have x0 := r0.cell 0; have x1 := r0.cell 1; have x2 := r0.cell 2
 simp only [qA, qZ, qS] at x0 x1 x2
 have hno : leafB n s p i x = false → leafS n s p i g x ⟨rw_, ru, rx⟩ = s := fun e => by rw [hcS, e]; rfl
 have hya : leafB n s p i x = true → leafS n s p i g x ⟨rw_, ru, rx⟩ = setS n s p i ⟨2, g, ⟨rw_, ru, rx⟩⟩ x := fun e => by rw [hcS, e]; rfl
 clear hcS r0
 cases hz : hasS s p i with
 | false =>
  rw [hz, Bool.false_and, Bool.false_and] at hcB
  rw [hno hcB, hcB]
  rw [hz] at hHas
  clear hlay hno hya hcB hFr
  go_enter Tryz.func165, Tryz.ntmps165
  go_wp2_with fail
  refine (hHas _ y0).mono ?_; rintro e w2 ⟨rfl, rfl⟩
  clear hHas
  go_wp2_with fail
  go_ret
  exact ⟨rfl, h1, y0.weak (by simp)⟩
 | true =>
  replace hlay := hlay hz
  obtain ⟨gp, egp, hgm, hgf, i0, i7, _, _, _⟩ := hasS_has hok hz
  obtain ⟨jp, pb, _, _, e4, hPp, _⟩ := h1.at_ egp
  have hLp := h1.look p hp'
  rw [e4] at hLp
  simp only [ptrO] at hLp
  obtain ⟨_, _, d2, _⟩ := PgB.head hPp
  have hlp : levP s.L p = gp.k.lev := by unfold levP; rw [egp]; rfl
  rw [hz, hlp, Bool.true_and] at hcB
  rw [hz] at hHas
  clear hlp egp hgm hgf e4
  by_cases hl1 : gp.k.lev = 1
  ·have hne : (gp.k.lev != 1) = false := by simp [hl1]
   rw [decide_eq_true hl1, Bool.true_and] at hcB
   rw [hl1] at d2
   by_cases hx0 : x < 0
   ·have hd0 : decide (x < 0) = true := by simpa using hx0
    rw [decide_eq_false (by omega)] at hcB
    rw [hno hcB, hcB]
    clear hlay hno hya hcB hFr
    go_enter Tryz.func165, Tryz.ntmps165
    go_wp2_with fail
    refine (hHas _ y0).mono ?_; rintro e w2 ⟨rfl, rfl⟩
    clear hHas
    go_wp2_with fail
    go_ret
    exact ⟨rfl, h1, y0.weak (by simp)⟩
   have hd0 : decide (x < 0) = false := by simp; omega
   by_cases hxn : x < n
   ·have hd1 : decide (x ≥ (n : Int)) = false := by simp; omega
    have hge : ¬ (n : Int) ≤ x := by omega
    rw [decide_eq_true (by omega)] at hcB
    rw [hya hcB, hcB]
    clear hno hya hcB
    go_enter Tryz.func165, Tryz.ntmps165
    go_wp2_with fail
    refine (hHas _ y0).mono ?_; rintro e w2 ⟨rfl, rfl⟩
    clear hHas
    go_wp2_with fail
    refine (hFr _ y0).mono ?_; rintro e w2 ⟨rfl, rfl⟩
    clear hFr
    go_wp2_with fail
    refine (hlay _ y0).mono ?_; rintro e w3 ⟨rfl, h3, y3⟩
    clear hlay
    go_wp2_with fail
    go_ret
    exact ⟨rfl, h3, (y0.weak (by simp)).trans y3 (fun _ _ hm => hm)⟩
   have hd1 : decide (x ≥ (n : Int)) = true := by simp; omega
   have hge : (n : Int) ≤ x := by omega
   rw [decide_eq_false (by omega)] at hcB
   rw [hno hcB, hcB]
   clear hlay hno hya hcB
   go_enter Tryz.func165, Tryz.ntmps165
   go_wp2_with fail
   refine (hHas _ y0).mono ?_; rintro e w2 ⟨rfl, rfl⟩
   clear hHas
   go_wp2_with fail
   refine (hFr _ y0).mono ?_; rintro e w2 ⟨rfl, rfl⟩
   clear hFr
   go_wp2_with fail
   go_ret
   exact ⟨rfl, h1, y0.weak (by simp)⟩
  have hne : (gp.k.lev != 1) = true := by simp [hl1]
  rw [decide_eq_false hl1, Bool.false_and] at hcB
  rw [hno hcB, hcB]
  clear hlay hno hya hcB hFr
  go_enter Tryz.func165, Tryz.ntmps165
  go_wp2_with fail
  refine (hHas _ y0).mono ?_; rintro e w2 ⟨rfl, rfl⟩
  clear hHas
  go_wp2_with fail
  go_ret
  exact ⟨rfl, h1, y0.weak (by simp)⟩
end
theorem setP_no {L : List Pg} {f : Int} {i : Nat} (h : ∀ p ∈ L, p.f = f → p.s[i]? = some Slt.no) : setP L f i Slt.no = L := by
 unfold setP
 conv => rhs; rw [← List.map_id L]
 apply List.map_congr_left
 intro p hp
 split
 ·rename_i e
  obtain ⟨h1, h2⟩ := List.getElem?_eq_some_iff.1 (h p hp e)
  rw [← h2, List.set_getElem_self]; rfl
 rfl
theorem wordS_no (f : Int) : wordS Slt.no f = 0 := rfl
theorem make_empty {n a m : Nat} {s : Sr} {k : Ky} (hok : SrOk n a m s) (hb : makeB s k = true) :
  emptyS n ⟨s.L ++ [⟨s.fr.getLastD 0, k, List.replicate 8 Slt.no⟩], s.fr.dropLast, s.W⟩ (s.fr.getLastD 0) 8 = makeS n s k := by
 obtain ⟨_, _, e⟩ := makeB_has hb
 generalize hf : s.fr.getLastD 0 = f at *
 have hmem : f ∈ s.fr := by rw [e]; simp
 have hbd := hok.mem f (by simp [hmem])
 have hle := hok.le
 have hnot : ∀ p ∈ s.L, p.f ≠ f := fun p hp e2 => by
  have := (List.nodup_append.1 hok.nd).2.2 p.f (List.mem_map.2 ⟨p, hp, rfl⟩) f hmem
  exact this e2
 have hL : ∀ i, i < 8 → setP (s.L ++ [⟨f, k, List.replicate 8 Slt.no⟩]) f i Slt.no = s.L ++ [⟨f, k, List.replicate 8 Slt.no⟩] := fun i hi => setP_no fun p hp e2 => by
  rcases List.mem_append.1 hp with h | h
  ·exact absurd e2 (hnot p h)
  rw [List.mem_singleton] at h; subst h
  show (List.replicate 8 Slt.no)[i]? = some Slt.no
  rw [List.getElem?_replicate, if_pos hi]
 obtain ⟨F, rfl⟩ := Int.eq_ofNat_of_zero_le (show 0 ≤ f by omega)
 have hW : ∀ (W : List Int) (i : Nat), i < 8 → setW n W (F : Int) (i : Int) 0 = W.set (F * 8 + i) 0 := fun W i hi => by
  unfold setW
  rw [if_pos (by unfold hasW; rw [decide_eq_true_eq]; omega)]; simp
 have hF : fillW n s.W (F : Int) (zeros 8) = setAll s.W (F * 8) (zeros 8) := by
  unfold fillW
  rw [if_pos (by unfold fillB hasF; simp [zeros_len]; omega)]; simp
 have hm : makeS n s k = ⟨s.L ++ [⟨(F : Int), k, List.replicate 8 Slt.no⟩], s.fr.dropLast, fillW n s.W (F : Int) (zeros 8)⟩ := by
  unfold makeS; rw [if_pos hb, hf]
 rw [hm, hF]
 simp only [emptyS, setS, wordS_no, Int.toNat_natCast]
 rw [hL 0 (by omega), hL 1 (by omega), hL 2 (by omega), hL 3 (by omega), hL 4 (by omega), hL 5 (by omega), hL 6 (by omega), hL 7 (by omega)]
 rw [hW _ 0 (by omega), hW _ 1 (by omega), hW _ 2 (by omega), hW _ 3 (by omega), hW _ 4 (by omega), hW _ 5 (by omega), hW _ 6 (by omega), hW _ 7 (by omega)]
 rfl
theorem ownI_G {w : World} {t : TypeId} {k : IntKind} {v : Value} {L : List Int} : OwnI w t k v L ↔ OwnG (numE k) w t v L := by
 unfold OwnI OwnG; rw [numE_all]; rfl
section
variable {q hp hb n a m fp mp : Nat} {s : Sr} {FS B : List Nat} {v : Value}
structure StPre (w : World) (q hp hb n a m : Nat) (s : Sr) (fr : List Int) (fp mp : Nat) (FS : List Nat) (v : Value) (B : List Nat) : Prop where
 st : Blk w q 195 #[.pointer (some ⟨hp, 0, none⟩), .pointer (some ⟨fp, 0, none⟩), .map (some mp), v]
 fl : FAt w FS fp a m fr
 mp_ : PtrM Tryz.prog 3 w mp s.L.length (blkF s.L B)
 od : OwnI w 3 .i64 v (s.L.map Pg.f)
 pg : ∀ (i : Nat) (p : Pg) (b : Nat), s.L[i]? = some p → B[i]? = some b → PgB w b p
 hm : MemAt w hp hb n s.W
theorem StX.taken {w w' : World} {fr : List Int} (h : StX w q hp hb n a m s fp mp FS v B) (hc : Chg FS w w') (hf : FAt w' FS fp a m fr) : StPre w' q hp hb n a m s fr fp mp FS v B :=
 ⟨hc.blk h.st h.fs.1, hf, h.mp_.chg hc h.fs.2.1, h.od.chg hc h.fs.2.2.1, fun i p b h1 h2 => hc.blk (h.pg i p b h1 h2) (h.fs.2.2.2 b (List.mem_of_getElem? h2)), ⟨hc.blk h.hm.st h.hs.1, hc.blk h.hm.ws h.hs.2, h.hm.len, h.hm.pos, h.hm.le⟩⟩
set_option maxRecDepth 100000 in
set_option maxHeartbeats 8000000 in
theorem Smake_any (k : Ky) (w : World) (h : StX w q hp hb n a m s fp mp FS v B) (hok : SrOk n a m s) :
  Calls Tryz.prog 45 #[.pointer (some ⟨q, 0, none⟩), .agg k.cs] w fun e w' => e = .returned (.tuple #[.int .i64 (makeV s k), .bool (makeB s k)]) ∧
   ∃ v' B', StX w' q hp hb n a m (makeS n s k) fp mp FS v' B' ∧ Chg (hb :: stS q mp FS v B) w w' ∧ ∀ i ∈ stS q mp FS v' B', i ∈ stS q mp FS v B ∨ w.heap.size ≤ i := by
 have hfd := fun w' (y : Chg [] w w') => Sfind_any k w' (h.new y)
 have hrt := fun w' => Sright_any k w'
 have hmB : makeB s k = ((pgOf s.L k).isNone && k.right && !s.fr.isEmpty) := rfl
 have hno : makeB s k = false → makeS n s k = s ∧ makeV s k = 0 := fun e => by unfold makeS makeV; rw [e]; exact ⟨rfl, rfl⟩
 have hyes : makeB s k = true → makeV s k = s.fr.getLastD 0 := fun e => by unfold makeV; rw [e]; rfl
 have hme := fun e => make_empty (k := k) hok e
 have y0 := (Chg.refl [] w).alloc (.cells k.cs 85)
 have kb0 := Blk.new w 85 k.cs
 have hkk : k.cs = #[.int .i64 k.g, .int .i64 k.lev, .int .i64 k.role] := rfl
 have hw0 : w.heap.size < (w.alloc (.cells k.cs 85)).heap.size := by simp
 cases hpo : pgOf s.L k with
 | some pk =>
  rw [hpo] at hmB hfd
  simp only [Option.isNone_some, Bool.false_and] at hmB
  obtain ⟨e1, e2⟩ := hno hmB
  rw [e1, e2, hmB]
  simp only [Option.isSome_some] at hfd
  have x0 := kb0.cell 0; have x1 := kb0.cell 1; have x2 := kb0.cell 2
  simp only [hkk, qA, qZ, qS] at x0 x1 x2 hfd y0 hw0
  clear hno hyes hme hmB hrt kb0 e1 e2
  rw [hkk]
  clear hkk
  go_enter Tryz.func45, Tryz.ntmps45
  go_wp2_with fail
  refine (hfd _ y0).mono ?_; rintro e w2 ⟨rfl, y⟩
  clear hfd x0 x1 x2
  go_wp2_with fail
  go_ret2
  exact ⟨rfl, v, B, h.new (y0.trans y (by simp)), (y0.trans y (by simp)).weak (by simp), fun i hi => .inl hi⟩
 | none =>
  rw [hpo] at hmB hfd
  have hfv : findV s.L k = 0 := by unfold findV; rw [hpo]; rfl
  rw [hfv] at hfd
  simp only [Option.isNone_none, Bool.true_and, Option.isSome_none] at hmB hfd
  cases hr : k.right with
  | false =>
   rw [hr] at hmB hrt
   simp only [Bool.false_and] at hmB
   obtain ⟨e1, e2⟩ := hno hmB
   rw [e1, e2, hmB]
   have x0 := kb0.cell 0; have x1 := kb0.cell 1; have x2 := kb0.cell 2
   have z := fun w' (y : Chg [] (w.alloc (.cells k.cs 85)) w') => (kb0.chg_ y (by simp))
   simp only [hkk, qA, qZ, qS] at x0 x1 x2 hfd y0 hw0 hrt z
   clear hno hyes hme hmB kb0 e1 e2
   rw [hkk]
   clear hkk
   go_enter Tryz.func45, Tryz.ntmps45
   go_wp2_with fail
   refine (hfd _ y0).mono ?_; rintro e w2 ⟨rfl, y⟩
   have zb := z _ y
   clear hfd x0 x1 x2 z
   have x0 := zb.cell 0; have x1 := zb.cell 1; have x2 := zb.cell 2
   simp only [qA, qZ, qS] at x0 x1 x2
   go_wp2_with fail
   refine (hrt _).mono ?_; rintro e w3 ⟨rfl, y3⟩
   clear hrt x0 x1 x2
   go_wp2_with fail
   go_ret2
   have yy := (y0.trans y (by simp)).trans y3 (by simp)
   exact ⟨rfl, v, B, h.new yy, yy.weak (by simp), fun i hi => .inl hi⟩
  | true =>
   rw [hr] at hmB hrt
   simp only [Bool.true_and] at hmB
   have x0 := kb0.cell 0; have x1 := kb0.cell 1; have x2 := kb0.cell 2
   have z := fun w' (y : Chg [] (w.alloc (.cells k.cs 85)) w') => (kb0.chg_ y (by simp))
   have htk := fun w' (y : Chg [] w w') => FTake_at FS fp a m s.fr w' (h.new y).fl
   have hc4 := fun w' (y : Chg [] w w') => (h.new y).c4
   simp only [hkk, qA, qZ, qS] at x0 x1 x2 hfd y0 hw0 hrt z
   clear kb0
   cases hfr : s.fr.isEmpty with
   | true =>
    rw [hfr] at hmB
    simp only [Bool.not_true] at hmB
    have hnil : s.fr = [] := List.isEmpty_iff.1 hfr
    obtain ⟨e1, e2⟩ := hno hmB
    rw [e1, e2, hmB]
    rw [hnil] at htk
    clear hno hyes hme hmB e1 e2 hfr
    rw [hkk]
    clear hkk
    go_enter Tryz.func45, Tryz.ntmps45
    go_wp2_with fail
    refine (hfd _ y0).mono ?_; rintro e w2 ⟨rfl, y⟩
    have zb := z _ y
    clear hfd x0 x1 x2 z
    have x0 := zb.cell 0; have x1 := zb.cell 1; have x2 := zb.cell 2
    simp only [qA, qZ, qS] at x0 x1 x2
    go_wp2_with fail
    refine (hrt _).mono ?_; rintro e w3 ⟨rfl, y3⟩
    clear hrt x0 x1 x2
    have yy := (y0.trans y (by simp)).trans y3 (by simp)
    obtain ⟨c0, c1, c2, c3⟩ := hc4 _ yy
    go_wp2_with fail
    refine (htk _ yy).mono ?_; rintro e w4 ⟨rfl, y4, hf4⟩
    clear htk c0 c1 c2 c3
    simp only [takeV, takeB, List.getLastD_nil, List.isEmpty_nil, Bool.not_true]
    go_wp2_with fail
    go_ret2
    have yc := yy.weak (T := FS) (by simp)
    have yz := yc.trans y4 (fun _ _ hm => hm)
    have P := (h.new yy).taken y4 hf4
    have hsf : s = ⟨s.L, [], s.W⟩ := Sr.ext_ rfl hnil rfl
    refine ⟨rfl, v, B, ⟨P.st, by rw [hnil]; exact P.fl, P.mp_, P.od, h.bl, h.nb, P.pg, P.hm, h.nd, h.ge, h.e8, h.fs, h.hs⟩, yz.weak (fun i _ hi => by simp [stS, hi]), fun i hi => .inl hi⟩
   | false =>
    rw [hfr] at hmB
    simp only [Bool.not_false] at hmB
    have e2 := hyes hmB
    replace hme := hme hmB
    rw [e2, hmB]
    obtain ⟨_, _, efr⟩ := makeB_has hmB
    have hlast : takeV s.fr = s.fr.getLastD 0 := rfl
    have htb : takeB s.fr = true := by unfold takeB; rw [hfr]; rfl
    rw [hlast, htb] at htk
    have hmem : s.fr.getLastD 0 ∈ s.fr := by rw [efr]; simp
    generalize s.fr.getLastD 0 = f at *
    have hbd := hok.mem f (by simp [hmem])
    have hle := hok.le; have hn6 := hok.n256
    have hnot : ∀ p ∈ s.L, p.f ≠ f := fun p hp e2 => (List.nodup_append.1 hok.nd).2.2 p.f (List.mem_map.2 ⟨p, hp, rfl⟩) f hmem e2
    have hbn : blkF s.L B f = none := (blkF_none h.bl).2 (pgAt_none.2 hnot)
    have hcnt := hok.cnt
    have hsize : s.L.length ≤ 256 := by omega
    clear hno hyes hmB e2 hfr hlast htb hmem
    rw [hkk]
    clear hkk
    go_enter Tryz.func45, Tryz.ntmps45
    go_wp2_with fail
    refine (hfd _ y0).mono ?_; rintro e w2 ⟨rfl, y⟩
    have zb := z _ y
    clear hfd x0 x1 x2 z
    have x0 := zb.cell 0; have x1 := zb.cell 1; have x2 := zb.cell 2
    simp only [qA, qZ, qS] at x0 x1 x2
    go_wp2_with fail
    refine (hrt _).mono ?_; rintro e w3 ⟨rfl, y3⟩
    clear hrt x0 x1 x2
    have yy := (y0.trans y (by simp)).trans y3 (by simp)
    obtain ⟨c0, c1, c2, c3⟩ := hc4 _ yy
    go_wp2_with fail
    refine (htk _ yy).mono ?_; rintro e w4 ⟨rfl, y4, hf4⟩
    clear htk c0 c1 c2 c3
    have P4 := (h.new yy).taken y4 hf4
    have ch4 := (yy.weak (T := FS) (by simp)).trans y4 (fun _ _ hm => hm)
    have kfs : w.heap.size ∉ FS := fun hm => by have := h.fl.lt _ hm; omega
    have kb4 := (zb.chg_ y3 (by simp)).chg_ y4 kfs
    have hz4 : w.heap.size ≤ w4.heap.size := Nat.le_trans yy.size y4.size
    clear zb hf4
    go_wp2_with fail
    have hne4 : q ≠ mp := h.ne.1.symm
    have kmp : w.heap.size ≠ mp := by have := h.mp_.lt; omega
    have hst4 := P4.st
    refine wp_region_noPanic ?_
    refine wp_region_held_drew (S := (fun w' => Chg [mp] w4 w')) (by kernel_rfl) ?_ (fun hHeld => ?_)
    ·exact ((Chg.refl [mp] w4).drew)
    refine tq 0 32 _ ?_
    refine tq 1 33 _ ?_
    refine tq 2 34 _ ?_
    (try simp only [Act.put, qI, qO, qU])
    (refine tk 3 35 ?_ ?_ ?_; rotate_left; · (intro w hSw; (try dsimp only at hSw); have b_ := (hst4.chg_ hSw (by simp; exact hne4)).cell 2; simp only [qA, qS, qZ] at b_; go_simp; (try with_reducible rfl)))
    refine tq 4 36 _ ?_
    refine tq 5 37 _ ?_
    (refine tk 6 38 ?_ ?_ ?_; rotate_left; · (intro w hSw; (try dsimp only at hSw); have b_ := (kb4.chg_ hSw (by simp; exact kmp)); have d0 := b_.cell 0; have d1 := b_.cell 1; have d2 := b_.cell 2; simp only [qA, qZ, qS] at d0 d1 d2; go_simp; (try with_reducible rfl)))
    (try simp only [Act.put, qI, qO, qU])
    refine tq 7 39 _ ?_
    (try simp only [Act.put, qI, qO, qU])
    refine rdy 8 fun K hK => ?_
    go_simp
    refine hK.out _ _ (by (try dsimp only); exact ((Chg.refl [mp] w4).drew.alloc _)) (fun hHeld => ?_)
    clear hK K
    (try dsimp only)
    (try simp only [Act.put, qI, qO, qU])
    obtain ⟨w5, hr5, hp5, hc5⟩ := (P4.mp_.chg (((Chg.refl [] w4).alloc (.cells (Pg.cl ⟨f, k, List.replicate 8 Slt.no⟩).toArray 185)).drew) (by simp)).store lawI Tryz.underlying193 Tryz.underlying3 (by simp [maxLen]; omega) f (WalkArith.wf_i64 (by omega)) w4.heap.size hbn
    have hcl : (Pg.cl ⟨f, k, List.replicate 8 Slt.no⟩).toArray = #[.int .i64 f, .int .i64 k.g, .int .i64 k.lev, .int .i64 k.role, .int .i64 0, .int .i64 0, .bool false, .bool false, .bool false, .int .i64 0, .int .i64 0, .bool false, .bool false, .bool false, .int .i64 0, .int .i64 0, .bool false, .bool false, .bool false, .int .i64 0, .int .i64 0, .bool false, .bool false, .bool false, .int .i64 0, .int .i64 0, .bool false, .bool false, .bool false, .int .i64 0, .int .i64 0, .bool false, .bool false, .bool false, .int .i64 0, .int .i64 0, .bool false, .bool false, .bool false, .int .i64 0, .int .i64 0, .bool false, .bool false, .bool false] := rfl
    rw [hcl] at hr5 hc5
    refine rdy 9 fun K hK => ?_
    go_simp
    refine hK.out _ _ (by (try dsimp only); exact (((Chg.refl [] w4).alloc _).drew.weak (by simp)).trans hc5 (fun _ _ hm => hm)) (fun hHeld => ?_)
    clear hK K
    (try dsimp only)
    (try simp only [Act.put, qI, qO, qU])
    refine wpAnyH_done (by kernel_rfl) ?_ _
    refine NoPanic.normal ?_
    obtain ⟨n1, n2, n3, n4, n5, n6, n7, n8, n9, n10, n11⟩ := h.ne
    have y5 : Chg [mp] w4 w5 := (((Chg.refl [] w4).alloc _).drew.weak (by simp)).trans hc5 (fun _ _ hm => hm)
    have pg5 : PgB w5 w4.heap.size ⟨f, k, List.replicate 8 Slt.no⟩ := by
     have := (Blk.new w4 185 (Pg.cl ⟨f, k, List.replicate 8 Slt.no⟩).toArray).drew
     rw [hcl] at this
     have h2 := this.chg_ hc5 (by have := P4.mp_.lt; simp; omega)
     unfold PgB; rw [hcl]; exact h2
    have st5 := P4.st.chg_ y5 (by simp; exact n1.symm)
    have fl5 := P4.fl.chg y5 (by intro i hi hm; simp at hm; subst hm; exact h.fs.2.1 hi)
    have od5 := P4.od.chg y5 (by intro i hi hm; simp at hm; subst hm; exact (n2 _ hi).2.1 rfl)
    have pgs5 : ∀ (i : Nat) (p : Pg) (b : Nat), s.L[i]? = some p → B[i]? = some b → PgB w5 b p := fun i p b e1 e2 => Blk.chg_ (P4.pg i p b e1 e2) y5 (by simp; rintro rfl; exact n4 (List.mem_of_getElem? e2))
    have hm5 : MemAt w5 hp hb n s.W := ⟨P4.hm.st.chg_ y5 (by simp; exact n7), P4.hm.ws.chg_ y5 (by simp; exact n8), P4.hm.len, P4.hm.pos, P4.hm.le⟩
    have hz5 : w4.heap.size < w5.heap.size := Blk.lt pg5
    have hold : ∀ i ∈ stS q mp FS v B, i < w4.heap.size := fun i hi => Nat.lt_of_lt_of_le (h.lt i hi) (Nat.le_trans yy.size y4.size)
    have hhp : hp < w4.heap.size ∧ hb < w4.heap.size := ⟨P4.hm.st.lt, P4.hm.ws.lt⟩
    have ch5 : Chg (stS q mp FS v B) w w5 := (ch4.weak (fun i _ hi => by simp [stS, hi])).trans y5 (fun i _ hi => by simp at hi; simp [stS, hi])
    clear hst4 kb4 P4 hr5 hcl hc5 hHeld
    generalize hnb : w4.heap.size = nb at *
    obtain ⟨A, c, hv⟩ := od5.form
    rw [List.length_map] at hv
    subst hv
    have oG := (ownI_G.1 od5)
    obtain ⟨c0, c1, c2, c3⟩ : w5.cell? ⟨q, 0, none⟩ = some (.pointer (some ⟨hp, 0, none⟩)) ∧ w5.cell? ⟨q, 1, none⟩ = some (.pointer (some ⟨fp, 0, none⟩)) ∧ w5.cell? ⟨q, 2, none⟩ = some (.map (some mp)) ∧ w5.cell? ⟨q, 3, none⟩ = some (.slice A s.L.length c) := ⟨st5.cell 0, st5.cell 1, st5.cell 2, st5.cell 3⟩
    have oG2 := oG
    unfold OwnG at oG2
    have hsrc := fun w' => (OwnG.lit (E := numE .i64) (L := [f]) (Blk.new w' 3 #[.int .i64 f]) (by simp)).src
    have oGa : OwnG (numE .i64) (w5.alloc (.cells #[.int .i64 f] 3)) 3 (.slice A s.L.length c) (s.L.map Pg.f) := oG.new ((Chg.refl [] w5).alloc (.cells #[.int .i64 f] 3))
    have hqo : q ∉ (Value.slice A s.L.length c).ownBlock.toList := fun hm => (n2 _ hm).1 rfl
    have hl1 : (s.L.map Pg.f ++ [f]).length = s.L.length + 1 := by simp
    go_wp2_with (at_builtin; refine wpList_append_G (E := numE .i64) rfl _ _ 43 rfl 3 (.int .i64 0) 8 Tryz.underlying43 int_info rfl (.slice A s.L.length c) (s.L.map Pg.f) rfl oGa (some ⟨w5.heap.size, 0, none⟩) 1 1 [f] rfl (hsrc w5) rfl (by rw [List.length_map]; omega) ?_; intro v6 w6 ho6 hc6 hb6; obtain ⟨A6, c6, rfl, _, _⟩ := ho6.form; rw [hl1] at ho6 hb6; have y6 := ((Chg.refl [] w5).alloc (.cells #[.int .i64 f] 3)).weak (T := (Value.slice A s.L.length c).ownBlock.toList) (by simp); have y6 := y6.trans hc6 (fun _ _ hm => hm); have st6 := st5.chg_ y6 hqo; have q3 := st6.cell 3; have f3 := st6.frozen 3; simp only [qA, qZ, qS] at q3)
    have st7 := st6.set_ 3 (.slice A6 (s.L.length + 1) c6)
    have y67 : Chg [q] w6 (w6.setCell ⟨q, 3, none⟩ (.slice A6 (s.L.length + 1) c6)) := (Chg.refl [q] w6).setCell (p := ⟨q, 3, none⟩) (by simp) _
    have ho7 : OwnG (numE .i64) (w6.setCell ⟨q, 3, none⟩ (.slice A6 (s.L.length + 1) c6)) 3 (.slice A6 (s.L.length + 1) c6) (s.L.map Pg.f ++ [f]) := ho6.chg y67 (fun g hg hm => by simp at hm; subst hm; obtain ⟨cs, hb_⟩ := own_cells ho6 _ hg; exact Blk.type_ne hb_ st6 (by decide) rfl)
    have hD : ∀ i, i ∈ q :: (Value.slice A s.L.length c).ownBlock.toList → i ∈ stS q mp FS (.slice A s.L.length c) B := fun i hi => by simp only [List.mem_cons] at hi; unfold stS; simp only [List.mem_cons, List.mem_append]; rcases hi with hi | hi; exact .inl hi; exact .inr (.inr (.inl hi))
    have y57 : Chg (q :: (Value.slice A s.L.length c).ownBlock.toList) w5 (w6.setCell ⟨q, 3, none⟩ (.slice A6 (s.L.length + 1) c6)) := (y6.weak (fun i _ hi => List.mem_cons_of_mem _ hi)).trans y67 (fun i _ hi => by simp at hi; simp [hi])
    have hnb5 : nb ∉ q :: (Value.slice A s.L.length c).ownBlock.toList := fun hm => by have := hold _ (hD _ hm); omega
    have own_fs : ∀ i ∈ (Value.slice A s.L.length c).ownBlock.toList, i ∉ FS ∧ i ≠ mp ∧ i ∉ B ∧ i ≠ hp ∧ i ≠ hb := fun i hi => ⟨h.fs.2.2.1 i hi, (n2 i hi).2.1, (n2 i hi).2.2.1, (n2 i hi).2.2.2.1, (n2 i hi).2.2.2.2⟩
    have hX : StX (w6.setCell ⟨q, 3, none⟩ (.slice A6 (s.L.length + 1) c6)) q hp hb n a m ⟨s.L ++ [⟨f, k, List.replicate 8 Slt.no⟩], s.fr.dropLast, s.W⟩ fp mp FS (.slice A6 (s.L.length + 1) c6) (B ++ [nb]) := by
     refine ⟨st7, fl5.chg y57 (fun i hi hm => ?_), ?_, ?_, by simp [h.bl], ?_, ?_, ⟨hm5.st.chg_ y57 ?_, hm5.ws.chg_ y57 ?_, hm5.len, hm5.pos, hm5.le⟩, ?_, ?_, ?_, ⟨h.fs.1, h.fs.2.1, ?_, ?_⟩, h.hs⟩
     ·simp only [List.mem_cons] at hm; rcases hm with rfl | hm
      ·exact h.fs.1 hi
      exact (own_fs _ hm).1 hi
     ·show PtrM _ _ _ _ (s.L ++ [_]).length _
      rw [List.length_append]
      exact (hp5.chg y57 (fun hm => by simp only [List.mem_cons] at hm; rcases hm with hm | hm; exact n1 hm; exact (own_fs _ hm).2.1 rfl)).congr fun y => (blkF_app (q := ⟨f, k, List.replicate 8 Slt.no⟩) (b := nb) h.bl (fun p hp => hnot p hp)).symm
     ·show OwnI _ _ _ _ ((s.L ++ [_]).map Pg.f)
      rw [List.map_append]
      exact ownI_G.2 ho7
     ·rw [List.nodup_append]
      exact ⟨h.nb, by simp, fun x hx y hy e => by simp at hy; subst hy; subst e; have := hold x (by simp [stS, hx]); omega⟩
     ·intro i p b e1 e2
      by_cases hi : i < s.L.length
      ·rw [List.getElem?_append_left hi] at e1
       rw [List.getElem?_append_left (by rw [h.bl]; exact hi)] at e2
       refine Blk.chg_ (pgs5 i p b e1 e2) y57 (fun hm => ?_)
       have hbB := List.mem_of_getElem? e2
       simp only [List.mem_cons] at hm; rcases hm with rfl | hm
       ·exact n3 hbB
       exact (own_fs _ hm).2.2.1 hbB
      rw [List.getElem?_append_right (by omega)] at e1
      rw [List.getElem?_append_right (by rw [h.bl]; omega)] at e2
      have hi0 : i - s.L.length = 0 := by have := (List.getElem?_eq_some_iff.1 e1).1; simp at this; omega
      rw [hi0] at e1
      rw [h.bl, hi0] at e2
      simp at e1 e2; subst e1; subst e2
      exact Blk.chg_ pg5 y57 hnb5
     ·intro hm; simp only [List.mem_cons] at hm; rcases hm with hm | hm
      ·exact n5 hm
      exact (own_fs _ hm).2.2.2.1 rfl
     ·intro hm; simp only [List.mem_cons] at hm; rcases hm with hm | hm
      ·exact n6 hm
      exact (own_fs _ hm).2.2.2.2 rfl
     ·show ((s.L ++ [_]).map Pg.f).Nodup
      rw [List.map_append, List.nodup_append]
      exact ⟨h.nd, by simp, fun x hx y hy e => by simp at hy hx; obtain ⟨p, hp, rfl⟩ := hx; exact hnot p hp (e.trans hy)⟩
     ·intro p hp; rcases List.mem_append.1 hp with hp | hp
      ·exact h.ge p hp
      rw [List.mem_singleton] at hp; subst hp; show 0 ≤ f ∧ f < (n : Int); omega
     ·intro p hp; rcases List.mem_append.1 hp with hp | hp
      ·exact h.e8 p hp
      rw [List.mem_singleton] at hp; subst hp; simp
     ·intro i hi
      rcases hb6 with e | e
      ·rw [e] at hi; exact (own_fs i hi).1
      rw [e] at hi; simp at hi; subst hi; intro hm; have := fl5.lt _ hm; omega
     intro i hi
     rcases List.mem_append.1 hi with hi | hi
     ·exact h.fs.2.2.2 i hi
     rw [List.mem_singleton] at hi; subst hi; intro hm; have := hold i (by simp [stS, hm]); omega
    have hemp := Sempty_any f _ hX (by rw [pgAt_app_no (pgAt_none.2 hnot)]; simp [pgAt])
    rw [hme] at hemp
    go_wp2_with fail
    refine hemp.mono ?_; rintro e w8 ⟨rfl, h8, y8⟩
    clear hemp
    go_wp2_with fail
    go_ret2
    have ch7 : Chg (stS q mp FS (.slice A s.L.length c) B) w (w6.setCell ⟨q, 3, none⟩ (.slice A6 (s.L.length + 1) c6)) := ch5.trans y57 (fun i _ hi => hD i hi)
    have hsw := h.lt
    refine ⟨rfl, _, _, h8, (ch7.weak (fun i _ hi => List.mem_cons_of_mem _ hi)).trans y8 (fun i hi hm => ?_), fun i hi => ?_⟩
    ·simp only [List.mem_cons, List.mem_append, List.not_mem_nil, or_false] at hm
     rcases hm with rfl | hm | rfl
     ·simp
     ·exact List.mem_cons_of_mem _ (by simp [stS, hm])
     omega
    simp only [stS, List.mem_cons, List.mem_append, List.not_mem_nil, or_false] at hi
    rcases hi with rfl | rfl | hi | hi | hi | rfl
    ·exact .inl (by simp [stS])
    ·exact .inl (by simp [stS])
    ·rcases hb6 with e | e
     ·rw [e] at hi; exact .inl (hD i (List.mem_cons_of_mem _ hi))
     rw [e] at hi; simp at hi; subst hi; right; omega
    ·exact .inl (by simp [stS, hi])
    ·exact .inl (by simp [stS, hi])
    exact .inr hz4
end
section
variable {n a m : Nat} {s : Sr}
def clrN (n : Nat) (s : Sr) : List (Int × Int) → Sr
 | [] => s
 | x :: T => clrN n (clearS n s x.1 x.2) T
theorem clrN_snoc (n : Nat) (x : Int × Int) : ∀ (T : List (Int × Int)) (s : Sr), clrN n s (T ++ [x]) = clearS n (clrN n s T) x.1 x.2
 | [], _ => rfl
 | y :: T, s => clrN_snoc n x T (clearS n s y.1 y.2)
theorem wipe_congr (h : SrOk n a m s) {c c' : Int → Nat → Bool} (e : ∀ q ∈ s.L, ∀ i < 8, c q.f i = c' q.f i) : wipeS s c = wipeS s c' := by
 refine Sr.ext_ ?_ rfl ?_
 ·unfold wipeS
  rw [updS_L, updS_L]
  unfold updP
  apply List.map_congr_left
  intro q hq
  refine Pg.ext_ rfl rfl ?_
  show List.mapIdx _ _ = List.mapIdx _ _
  apply List.ext_getElem?
  intro j
  rw [List.getElem?_mapIdx, List.getElem?_mapIdx]
  cases e2 : q.s[j]? with
  | none => rfl
  | some x =>
   have hj := (List.getElem?_eq_some_iff.1 e2).1
   rw [h.eight q hq] at hj
   unfold wipeU
   rw [e q hq j hj]
 unfold wipeS
 rw [updS_W, updS_W]
 unfold updW
 apply List.ext_getElem?
 intro j
 rw [List.getElem?_mapIdx, List.getElem?_mapIdx]
 cases e2 : s.W[j]? with
 | none => rfl
 | some v =>
  rw [Option.map_some, Option.map_some]
  cases e3 : pgAt s.L ((j / 8 : Nat) : Int) with
  | none => rfl
  | some q =>
   obtain ⟨hq, hf⟩ := pgAt_mem e3
   unfold wipeU
   rw [← hf, e q hq (j % 8) (by omega)]
theorem wipe_none (h : SrOk n a m s) : wipeS s (fun _ _ => false) = s := h.upd_id fun q _ i _ y hy => by unfold wipeU at hy; simp at hy
theorem clr_wipe : ∀ (T : List (Int × Int)) {s : Sr}, SrOk n a m s → (∀ x ∈ T, 0 ≤ x.2 ∧ x.2 ≤ 7) → clrN n s T = wipeS s fun f j => T.any fun x => decide (f = x.1 ∧ j = x.2.toNat)
 | [], s, h, _ => (wipe_none h).symm
 | x :: T, s, h, hx => by
  rw [clrN, clr_wipe T (h.clear x.1 x.2) (fun y hy => hx y (List.mem_cons_of_mem _ hy)), h.clear_wipe x.1 x.2 (hx x List.mem_cons_self), wipe_wipe]
  rfl
theorem clr_ok : ∀ (T : List (Int × Int)) {s : Sr}, SrOk n a m s → SrOk n a m (clrN n s T)
 | [], _, h => h
 | x :: T, _, h => clr_ok T (h.clear x.1 x.2)
theorem set_wipe (h : SrOk n a m s) {p : Int} {k : Nat} (hb : hasS s p k = true) : setS n s p k Slt.no 0 = wipeS s fun f j => decide (f = p ∧ j = k) := by
 rw [h.set_upd _ _ hb]
 unfold wipeS
 congr 1
 funext f j
 unfold wipeU oneU
 simp only [decide_eq_true_eq, Int.toNat_natCast]
 rfl
theorem empty_wipe (h : SrOk n a m s) {p : Int} (hb : dropB s p = true) : ∀ k, k ≤ 8 → emptyS n s p k = wipeS s fun f j => decide (f = p ∧ j < k)
 | 0, _ => by
  show s = _
  conv => lhs; rw [← wipe_none h]
  refine wipe_congr h fun q _ i _ => ?_
  simp
 | k + 1, hk => by
  have hh : hasS (emptyS n s p k) p (k : Nat) = true := by
   rw [empty_has]; unfold hasS
   rw [show (pgAt s.L p).isSome = true from hb]; simp; omega
  rw [emptyS]
  have ih := empty_wipe h hb k (by omega)
  rw [ih] at hh ⊢
  rw [set_wipe (h.wipe _) hh, wipe_wipe]
  refine wipe_congr h fun q _ i _ => ?_
  rw [Bool.eq_iff_iff]
  simp only [Bool.or_eq_true, decide_eq_true_eq]
  omega
theorem told_bound (h : SrOk n a m s) {kind p : Int} {x : Int × Int} (hx : x ∈ toldP kind p s.L) : ((a : Int) ≤ x.1 ∧ x.1 < a + m) ∧ 0 ≤ x.2 ∧ x.2 ≤ 7 := by
 obtain ⟨g, j⟩ := x
 obtain ⟨q, hq, e, i, y, hy, hj, _⟩ := told_mem.1 hx
 have hi := (List.getElem?_eq_some_iff.1 hy).1
 rw [h.eight q hq] at hi
 have := h.inL hq
 simp only
 omega
theorem drop_wipe (h : SrOk n a m s) {p : Int} (hb : dropB s p = true) : emptyS n (clrN n s (toldP 1 p s.L)) p 8 = wipeS s (goneC s.L p) := by
 have hT : ∀ x ∈ toldP 1 p s.L, 0 ≤ x.2 ∧ x.2 ≤ 7 := fun x hx => (told_bound h hx).2
 have hk := clr_ok (toldP 1 p s.L) h
 have e := clr_wipe (toldP 1 p s.L) h hT
 have hb' : dropB (clrN n s (toldP 1 p s.L)) p = true := by
  rw [e]
  unfold dropB wipeS
  rw [updS_L, some_upd]; exact hb
 rw [empty_wipe hk hb' 8 (by omega), e, wipe_wipe]
 refine wipe_congr h fun q hq i hi => ?_
 obtain ⟨x, hx, hsl⟩ := h.slot hq hi
 unfold goneC
 rw [hsl, Bool.eq_iff_iff]
 simp only [Bool.or_eq_true, decide_eq_true_eq, List.any_eq_true]
 constructor
 ·rintro (⟨y, hy, h1, h2⟩ | h1)
  ·obtain ⟨g, j⟩ := y
   obtain ⟨q', hq', e1, i', y', hy', e2, h3, h4⟩ := told_mem.1 hy
   simp only at h1 h2
   have : q' = q := by
    have e3 := h.at_ hq; have e4 := h.at_ hq'
    rw [← e1, ← h1, e3] at e4; injection e4 with e4; exact e4.symm
   subst this
   have : i' = i := by omega
   subst this
   rw [hx] at hy'; injection hy' with hy'; subst hy'
   exact .inr ⟨h3, h4⟩
  exact .inl h1.1
 rintro (h1 | ⟨h1, h2⟩)
 ·exact .inr ⟨h1, hi⟩
 exact .inl ⟨(q.f, (i : Int)), told_mem.2 ⟨q, hq, rfl, i, x, hx, rfl, h1, h2⟩, rfl, by simp⟩
theorem dropS_is {p : Int} (hb : dropB s p = true) : dropS s p = ⟨(wipeS s (goneC s.L p)).L.filter fun q => decide (q.f ≠ p), s.fr ++ [p], (wipeS s (goneC s.L p)).W⟩ := by
 unfold dropS; rw [if_pos hb]
end
theorem filter_erase : ∀ {L : List Pg} {j : Nat} {q : Pg}, (L.map Pg.f).Nodup → L[j]? = some q → L.filter (fun x => decide (x.f ≠ q.f)) = L.eraseIdx j
 | [], j, q, _, h => by simp at h
 | x :: L, 0, q, hn, h => by
  simp at h; subst h
  rw [List.map_cons, List.nodup_cons] at hn
  rw [List.filter_cons, if_neg (by simp), List.eraseIdx_cons_zero, List.filter_eq_self]
  intro y hy
  rw [decide_eq_true_eq]
  exact fun e => hn.1 (List.mem_map.2 ⟨y, hy, e⟩)
 | x :: L, j + 1, q, hn, h => by
  rw [qS] at h
  rw [List.map_cons, List.nodup_cons] at hn
  rw [List.filter_cons, if_pos (by rw [decide_eq_true_eq]; exact fun e => hn.1 (List.mem_map.2 ⟨q, List.mem_of_getElem? h, e.symm⟩)), List.eraseIdx_cons_succ, filter_erase hn.2 h]
theorem blkF_erase : ∀ {L : List Pg} {B : List Nat} {j : Nat} {q : Pg} {f : Int}, (L.map Pg.f).Nodup → B.length = L.length → L[j]? = some q → blkF (L.eraseIdx j) (B.eraseIdx j) f = delF (blkF L B) q.f f
 | [], _, j, q, _, _, _, h => by simp at h
 | x :: L, [], _, _, _, _, h, _ => by simp at h
 | x :: L, b :: B, 0, q, f, hn, hl, h => by
  simp at h; subst h
  rw [List.map_cons, List.nodup_cons] at hn
  rw [List.eraseIdx_cons_zero, List.eraseIdx_cons_zero]
  unfold delF
  by_cases e : f = x.f
  ·rw [if_pos e, (blkF_none (by simpa using hl)).2]
   rw [pgAt_none]
   intro y hy e2
   exact hn.1 (List.mem_map.2 ⟨y, hy, e2.trans e⟩)
  rw [if_neg e, show blkF (x :: L) (b :: B) f = blkF L B f by rw [blkF, if_neg e]]
 | x :: L, b :: B, j + 1, q, f, hn, hl, h => by
  rw [qS] at h
  rw [List.map_cons, List.nodup_cons] at hn
  have hne : x.f ≠ q.f := fun e => hn.1 (List.mem_map.2 ⟨q, List.mem_of_getElem? h, e.symm⟩)
  rw [List.eraseIdx_cons_succ, List.eraseIdx_cons_succ]
  have ih := blkF_erase (B := B) (f := f) hn.2 (by simpa using hl) h
  unfold delF at ih ⊢
  rw [show blkF (x :: L.eraseIdx j) (b :: B.eraseIdx j) f = if f = x.f then some b else blkF (L.eraseIdx j) (B.eraseIdx j) f from rfl, show blkF (x :: L) (b :: B) f = if f = x.f then some b else blkF L B f from rfl, ih]
  by_cases e : f = x.f
  ·rw [if_pos e, if_neg (by rw [e]; exact hne), if_pos e]
  rw [if_neg e, if_neg e]
theorem wpList_delete_P {P : Program} {kt : TypeId} {w : World} {ops : Array Oper} {rest : List Oper} {o : Oper} {a : Act} {Q : Exit → Act → World → Prop} (hg : o.guard = none) (m x : Operand) (t : TypeId) (hop : o.op = Op.call { callee := Callee.builtin Builtin.delete, args := #[m, x], argTypes := #[t, kt] }) (e : TypeId) (K : Keyed P kt) (ht : P.underlying t = some (.map kt e)) (hkt : P.underlying kt = some (.int .i64))
  (b n : Nat) (F : Int → Option Nat) (hm : a.eval m = .map (some b)) (hs : PtrM P kt w b n F) (f : Int) (hx : a.eval x = .int .i64 f) (hf : (Lit.int .i64 f).wf = true) (hF : (F f).isSome = true)
  (hK : ∀ w', PtrM P kt w' b (n - 1) (delF F f) → 0 < n → Chg [b] w w' → wpList P ops Q rest (a.put o.dst (.tuple #[])) w') : wpList P ops Q (o :: rest) a w := by
 obtain ⟨D, h1, h2, h3, h4⟩ := hs
 have hd := Maps.size_del (k := .int .i64 f) (h1.tidy K)
 rw [h2, hF, h4] at hd
 simp only [if_true] at hd
 refine wpList_delete_own w hg m x t kt hop e K ht ptrElem b n D hm h1 _ _ hx (keyOf_int_mk hkt hf) fun w' o1 o2 => hK w' ⟨_, (show n - 1 = Maps.size (D.del (.int .i64 f)) by omega) ▸ ownsMap_tightP o1, fun x => ?_, fun x => ?_, by omega⟩ (by omega) (Chg.of_grown o2.grown)
 ·by_cases hx : x = f
  ·subst hx; rw [Maps.has_del_same]; simp [delF]
  rw [Maps.has_del_other (lit_ne hx), h2]; simp [delF, hx]
 by_cases hx : x = f
 ·subst hx; rw [Maps.atKey_del_same]; simp [delF, ptrD]
 rw [Maps.atKey_del_other (lit_ne hx), h3]; simp [delF, hx]
end Go.Proofs.YtmbgepafpcbakaaGreatDoor
namespace Go.Proofs.YtmbgepafpcbakaaGreatDoor
open Go.RowKit Go.Maps Go.Shelf
set_option maxHeartbeats 400000 in
theorem SDrop1_any (x : Int) (pb : Nat) (p : Int) (w : World) (hp : Blk w pb 3 #[.int .i64 p]) : Calls Tryz.prog 181 #[.int .i64 x, .pointer (some ⟨pb, 0, none⟩)] w fun e w' => e = .returned (.bool (x == p)) ∧ Chg [] w w' := by
 have c0 := hp.cell 0
 simp only [qA, qZ] at c0
 go_enter Tryz.func181, Tryz.ntmps181
 go_wp2
 go_ret
 exact ⟨rfl, Chg.refl _ _⟩
section
variable {q hp hb n a m fp mp : Nat} {s : Sr} {FS B : List Nat} {v : Value}
set_option maxRecDepth 100000 in
set_option maxHeartbeats 2000000 in
theorem Sdrop_no (p : Int) (w : World) (h : StX w q hp hb n a m s fp mp FS v B) (hp' : -9223372036854775808 ≤ p ∧ p ≤ 9223372036854775807) (hd : dropB s p = false) :
  Calls Tryz.prog 113 #[.pointer (some ⟨q, 0, none⟩), .int .i64 p] w fun e w' => e = .returned (.bool false) ∧ Chg [] w w' := by
 have y0 := (Chg.refl [] w).alloc (.cells #[.int .i64 p] 3)
 have b0 := Blk.new w 3 #[.int .i64 p]
 have hqst := (h.new y0).st
 have hL := fun w' (y : Chg [] (w.alloc (.cells #[.int .i64 p] 3)) w') => ((h.new y0).new y).look p hp'
 have hnone : blkF s.L B p = none := (blkF_none h.bl).2 (by unfold dropB at hd; simpa using hd)
 rw [hnone] at hL
 simp only [ptrO] at hL
 clear h hnone hd
 go_enter Tryz.func113, Tryz.ntmps113
 go_wp2_with fail
 generalize w.alloc (.cells #[.int .i64 p] 3) = w1 at *
 refine wp_region_noPanic ?_
 refine wp_region_held_drew (S := (fun w' => Chg [] w1 w')) (by kernel_rfl) ?_ (fun hHeld => ?_)
 ·exact ((Chg.refl [] w1).drew)
 refine tq 0 7 _ ?_
 refine tq 1 8 _ ?_
 refine tq 2 9 _ ?_
 (refine tk 3 10 ?_ ?_ ?_; rotate_left; · (intro w hSw; (try dsimp only at hSw); have b_ := (hqst.chg_ hSw (by simp)).cell 2; simp only [qA, qS, qZ] at b_; go_simp; (try with_reducible rfl)))
 (try simp only [Act.put, qI, qO, qU])
 (refine tk 4 11 ?_ ?_ ?_; rotate_left; · (intro w hSw; (try dsimp only at hSw); have b_ := (b0.chg_ hSw (by simp)).cell 0; simp only [qA, qZ] at b_; go_simp; (try with_reducible rfl)))
 (refine tk 5 12 ?_ ?_ ?_; rotate_left; · (intro w hSw; (try dsimp only at hSw); have hlk_ := hL w hSw; go_simp; (try with_reducible rfl)))
 refine tq 6 13 _ ?_
 (try simp only [Act.put, qI, qO, qU])
 refine wpAnyH_done (by kernel_rfl) ?_ _
 refine NoPanic.normal ?_
 go_wp2_with fail
 go_ret
 exact ⟨rfl, y0.drew⟩
set_option maxRecDepth 100000 in
set_option maxHeartbeats 8000000 in
theorem Sdrop_yes (p : Int) (w : World) (h : StX w q hp hb n a m s fp mp FS v B) (hok : SrOk n a m s) (hp' : -9223372036854775808 ≤ p ∧ p ≤ 9223372036854775807) (hd : dropB s p = true) :
  Calls Tryz.prog 113 #[.pointer (some ⟨q, 0, none⟩), .int .i64 p] w fun e w' => e = .returned (.bool true) ∧
   ∃ FS' v' B', StX w' q hp hb n a m (dropS s p) fp mp FS' v' B' ∧ Chg (hb :: stS q mp FS v B) w w' ∧ ∀ i ∈ stS q mp FS' v' B', i ∈ stS q mp FS v B ∨ w.heap.size ≤ i := by
 have y0 := (Chg.refl [] w).alloc (.cells #[.int .i64 p] 3)
 have b0 := Blk.new w 3 #[.int .i64 p]
 have hqst := (h.new y0).st
 have hL := fun w' (y : Chg [] (w.alloc (.cells #[.int .i64 p] 3)) w') => ((h.new y0).new y).look p hp'
 obtain ⟨g, hg⟩ := Option.isSome_iff_exists.1 (show (pgAt s.L p).isSome = true from hd)
 obtain ⟨j, pb, g1, g2, g3, g4, g5⟩ := h.at_ hg
 rw [g3] at hL
 simp only [ptrO] at hL
 have hcnt := hok.cnt; have hle := hok.le; have hn6 := hok.n256
 have hpb := hok.inL (pgAt_mem hg).1
 rw [g5] at hpb
 have hPar := fun w' (y : Chg [] w w') => Sparents_any p w' (h.new y) (by omega)
 have hT := fun x hx => told_bound hok (kind := 1) (p := p) (x := x) hx
 have hTl : (toldP 1 p s.L).length ≤ 100000 := by
  rw [← lnkF_all h.e8]
  have := lnkF_len 1 p s.L (allI s.L.length)
  unfold allI at this ⊢
  rw [List.length_finRange] at this
  omega
 have hsz0 : w.heap.size < (w.alloc (.cells #[.int .i64 p] 3)).heap.size := by simp
 obtain ⟨T, hTT⟩ : ∃ T, toldP 1 p s.L = T := ⟨_, rfl⟩
 have hdw := drop_wipe hok hd
 rw [hTT] at hPar hT hTl hdw
 have hclr : ∀ (k : Nat) (x : Int × Int), T[k]? = some x → ∀ w', StX w' q hp hb n a m (clrN n s (T.take k)) fp mp FS v B → Calls Tryz.prog 180 #[.pointer (some ⟨q, 0, none⟩), .int .i64 x.1, .int .i64 x.2] w' fun e w2 => (∃ t, e = .returned (.bool t)) ∧ StX w2 q hp hb n a m (clrN n s (T.take (k + 1))) fp mp FS v B ∧ Chg (hb :: B) w' w2 := by
  intro k x hx w' H
  have hxm := hT x (List.mem_of_getElem? hx)
  refine (Sclear_any x.1 x.2 w' H (by omega)).mono fun e w2 ⟨e1, e2, e3⟩ => ⟨⟨_, e1⟩, ?_, e3⟩
  have hk := (List.getElem?_eq_some_iff.1 hx).1
  rw [List.take_succ_eq_append_getElem hk, clrN_snoc, (List.getElem?_eq_some_iff.1 hx).2]
  exact e2
 clear hTT
 have hok2 := clr_ok T hok
 go_enter Tryz.func113, Tryz.ntmps113
 go_wp2_with fail
 generalize w.alloc (.cells #[.int .i64 p] 3) = w1 at *
 have hzd : w1.drew.heap.size = w1.heap.size := rfl
 refine wp_region_noPanic ?_
 refine wp_region_held_drew (S := (fun w' => Chg [] w1 w')) (by kernel_rfl) ?_ (fun hHeld => ?_)
 ·exact ((Chg.refl [] w1).drew)
 refine tq 0 7 _ ?_
 refine tq 1 8 _ ?_
 (try simp only [Act.put, qI, qO, qU])
 refine tq 2 9 _ ?_
 (refine tk 3 10 ?_ ?_ ?_; rotate_left; · (intro w hSw; (try dsimp only at hSw); have b_ := (hqst.chg_ hSw (by simp)).cell 2; simp only [qA, qS, qZ] at b_; go_simp; (try with_reducible rfl)))
 (refine tk 4 11 ?_ ?_ ?_; rotate_left; · (intro w hSw; (try dsimp only at hSw); have b_ := (b0.chg_ hSw (by simp)).cell 0; simp only [qA, qZ] at b_; go_simp; (try with_reducible rfl)))
 (refine tk 5 12 ?_ ?_ ?_; rotate_left; · (intro w hSw; (try dsimp only at hSw); have hlk_ := hL w hSw; go_simp; (try with_reducible rfl)))
 (try simp only [Act.put, qI, qO, qU])
 refine tq 6 13 _ ?_
 (try simp only [Act.put, qI, qO, qU])
 refine wpAnyH_done (by kernel_rfl) ?_ _
 refine NoPanic.normal ?_
 have bd := b0.drew
 have x0 := b0.cell 0
 simp only [qA, qZ] at x0
 go_wp2_with fail
 refine (hPar _ y0.drew).mono ?_; rintro e w2 ⟨A, c, rfl, ho, hnew, y2⟩
 clear hPar hL x0 hHeld
 have y02 := y0.drew.trans y2 (by simp)
 have b2 := bd.chg_ y2 (by simp)
 have hX2 := h.new y02
 have hD : ∀ i ∈ hb :: B, i < w.heap.size := fun i hi => by
  simp only [List.mem_cons] at hi
  rcases hi with rfl | hi
  ·exact h.hm.ws.lt
  exact h.lt i (by simp [stS, hi])
 have hlen : T.length ≤ 9223372036854775807 := by omega
 go_wp2_with fail
 go_loopw [18] (fun s18 wr => ∃ k : Nat, k ≤ T.length ∧ s18 = .int .i64 k ∧ StX wr q hp hb n a m (clrN n s (T.take k)) fp mp FS v B ∧ Chg (hb :: B) w wr ∧ Blk wr w.heap.size 3 #[.int .i64 p] ∧ OwnG atE wr 104 (.slice A T.length c) T) (fun s18 _ => T.length - (intOf s18).toNat)
 case atStart => exact ⟨0, Nat.zero_le _, rfl, hX2, y02.weak (by simp), b2, ho⟩
 obtain ⟨k, hk, rfl, H, y, bk, ok⟩ := hrel
 clear hX2 b2 ho y2 bd
 by_cases hlt : k < T.length
 ·have hltz : (k : Int) < (T.length : Int) := by omega
  obtain ⟨gb, off, x, rfl, _, hx, hat⟩ := ok.slg.get hlt
  have hc := hclr k x hx
  have a0 := hat 0 _ rfl; have a1 := hat 1 _ rfl
  simp only [show (atE).k = 2 from rfl, Nat.add_zero] at a0 a1
  clear hclr hx hat
  go_wp2_with fail
  refine (hc _ (H.new ((Chg.refl [] wr).alloc _))).mono ?_; rintro e w3 ⟨⟨t, rfl⟩, H3, y3⟩
  clear hc a0 a1
  have yk := ((Chg.refl [] wr).alloc (.cells #[.int .i64 x.1, .int .i64 x.2] 104)).weak (T := hb :: B) (by simp)
  have y4 := yk.trans y3 (fun _ _ hm => hm)
  go_wp2_with fail
  go_roundw
  case rel =>
   refine ⟨k + 1, by omega, by go_num, H3, y.trans y4 (fun _ _ hm => hm), bk.chg_ y4 (fun hm => by have := hD _ hm; omega), ok.chg y4 (fun g_ hg_ hm => ?_)⟩
   have := hnew g_ hg_; have := hD _ hm; omega
  case measure => simp [intOf]; omega
 obtain rfl : k = T.length := by omega
 have hltz : ¬ (T.length : Int) < (T.length : Int) := by omega
 rw [List.take_length] at H
 clear hclr ok hnew
 have e0 := bk.cell 0
 simp only [qA, qZ] at e0
 have hemp := Sempty_any p wr H (by
  rw [clr_wipe T hok (fun x hx => (hT x hx).2)]
  unfold wipeS
  rw [updS_L, some_upd]; exact hd)
 rw [hdw] at hemp
 clear hdw hok2 hT
 go_wp2_with fail
 refine hemp.mono ?_; rintro e w3 ⟨rfl, H3, y3⟩
 clear hemp e0
 have y13 := y.trans y3 (fun _ _ hm => hm)
 have b3 := bk.chg_ y3 (fun hm => by have := hD _ hm; omega)
 obtain ⟨s3, hs3⟩ : ∃ s3, wipeS s (goneC s.L p) = s3 := ⟨_, rfl⟩
 have hds := dropS_is hd
 have hmap3 : s3.L.map Pg.f = s.L.map Pg.f := by rw [← hs3]; unfold wipeS; rw [updS_L]; exact (updP_map s.L _).1
 have hfr3 : s3.fr = s.fr := by rw [← hs3]; rfl
 have hlen3 : s3.L.length = s.L.length := by have := congrArg List.length hmap3; simpa using this
 rw [hs3] at H3 hds
 clear hs3
 have hpg3 : (pgAt s3.L p).isSome = true := by
  cases e : pgAt s3.L p with
  | some _ => rfl
  | none =>
   exfalso
   rw [pgAt_none] at e
   have hm : p ∈ s3.L.map Pg.f := by rw [hmap3]; exact List.mem_map.2 ⟨g, (pgAt_mem hg).1, g5⟩
   obtain ⟨r, hr, hrf⟩ := List.mem_map.1 hm
   exact e r hr hrf
 obtain ⟨g', hg'⟩ := Option.isSome_iff_exists.1 hpg3
 obtain ⟨j3, b_3, k1, k2, k3, k4, k5⟩ := H3.at_ hg'
 have hwf := WalkArith.wf_i64 hp'
 obtain ⟨n1, n2, n3, n4, n5, n6, n7, n8, n9, n10, n11⟩ := h.ne
 have hqm : q ≠ mp := n1.symm
 have hmf : ∀ (fn : Fn) (first cap : Array Value) (w : World), (Instr.makeFunc fn first cap).run Tryz.prog w = .ok (.func fn first cap) w := fun _ _ _ _ => rfl
 have hF3 : (blkF s3.L B p).isSome = true := by rw [k3]; rfl
 have q3 := H3.st
 have d2 := q3.cell 2
 have dp := b3.cell 0
 simp only [qA, qZ, qS] at d2 dp
 clear hg' hpg3 k3 bk
 go_wp2_with fail
 refine wp_region_still_tail 5 (by kernel_rfl) (by kernel_rfl) ?_
 simp only [List.take_succ_cons, List.take_zero, List.drop_succ_cons, List.drop_zero]
 change wpStill _ _ (World.drew _) _ _ _
 iterate 5 still_step
 refine wpStill_nil ?_
 change wpList _ _ _ _ _ (World.drew _)
 clear d2 dp
 go_wp2_with (at_delete; refine wpList_delete_P rfl _ _ 193 rfl 182 lawI Tryz.underlying193 Tryz.underlying3 mp s3.L.length (blkF s3.L B) rfl (H3.mp_.chg (Chg.refl [] w3).drew (by simp)) p rfl hwf hF3 ?_; intro w4 mp4 hpos y4; have y34 : Chg [mp] w3 w4 := ((Chg.refl [mp] w3).drew).trans y4 (fun _ _ hh => hh); have st4 := q3.chg_ y34 (by simp; exact hqm); have c3 := st4.cell 3; simp only [qA, qZ, qS] at c3)
 have b4 := b3.chg_ y34 (by simp; have := h.mp_.lt; omega)
 have od4 := H3.od.chg y34 (by intro i hi hm; simp at hm; subst hm; exact (n2 _ hi).2.1 rfl)
 have hrng : ∀ x ∈ s3.L.map Pg.f, IntKind.i64.min ≤ x ∧ x ≤ IntKind.i64.max := fun x hx => by
  obtain ⟨r, hr, rfl⟩ := List.mem_map.1 hx
  have := H3.ge r hr
  have h1 : IntKind.i64.min = -9223372036854775808 := rfl
  have h2 : IntKind.i64.max = 9223372036854775807 := rfl
  omega
 have hbv : w.heap.size ∉ v.ownBlock.toList := fun hm => by have := h.od.lt _ hm; omega
 have hdel := deleteI_any (fun x => x == p) 181 w.heap.size (enters_of Tryz.func181 (by kernel_rfl) rfl) v (s3.L.map Pg.f) w4 hrng (fun x W yW => SDrop1_any x w.heap.size p W (b4.chg_ yW hbv)) od4
 refine hdel.mono ?_; rintro e w5 ⟨v', rfl, y5, od5, hob⟩
 clear hdel c3
 have hfl : (s3.L.map Pg.f).filter (fun h => !(h == p)) = (s3.L.filter fun x => decide (x.f ≠ p)).map Pg.f := by
  rw [List.filter_map]
  congr 1
  apply List.filter_congr
  intro x _
  by_cases e : x.f = p <;> simp [Function.comp, e]
 rw [hfl] at od5
 have her : s3.L.filter (fun x => decide (x.f ≠ p)) = s3.L.eraseIdx j3 := by have := filter_erase H3.nd k1; rwa [k5] at this
 obtain ⟨L5, hL5⟩ : ∃ L5, s3.L.filter (fun x => decide (x.f ≠ p)) = L5 := ⟨_, rfl⟩
 rw [hL5] at od5 her hds
 clear hfl hL5
 replace her := Lib.hid her; replace hds := Lib.hid hds
 obtain ⟨A5, c5, hv5⟩ := od5.form
 rw [List.length_map] at hv5
 subst hv5
 have st5 := st4.chg_ y5 (fun hm => (n2 _ hm).1 rfl)
 have q5 := st5.cell 3; have f5 := st5.frozen 3
 simp only [qA, qZ, qS] at q5
 go_wp2_with fail
 generalize hv6 : Value.slice A5 L5.length c5 = v6 at *
 have hv6o : v6.ownBlock = v.ownBlock := hob
 have y6 : Chg [q] w5 (w5.setCell ⟨q, 3, none⟩ v6) := (Chg.refl [q] w5).setCell (p := ⟨q, 3, none⟩) (by simp) _
 have st6 := st5.set_ 3 v6
 have hDv : ∀ i, i ∈ mp :: q :: v.ownBlock.toList → i ∈ stS q mp FS v B := fun i hi => by
  simp only [List.mem_cons] at hi
  unfold stS
  simp only [List.mem_cons, List.mem_append]
  rcases hi with hi | hi | hi
  ·exact .inr (.inl hi)
  ·exact .inl hi
  exact .inr (.inr (.inl hi))
 have y36 : Chg (mp :: q :: v.ownBlock.toList) w3 (w5.setCell ⟨q, 3, none⟩ v6) := ((y34.weak (fun i _ hi => by simp at hi; simp [hi])).trans y5 (fun i _ hi => by simp only [List.mem_cons]; exact .inr (.inr hi))).trans y6 (fun i _ hi => by simp at hi; simp [hi])
 have own_fs : ∀ i, i ∈ mp :: q :: v.ownBlock.toList → i ∉ FS ∧ i ∉ B ∧ i ≠ hp ∧ i ≠ hb := fun i hi => by
  simp only [List.mem_cons] at hi
  rcases hi with rfl | rfl | hi
  ·exact ⟨h.fs.2.1, n4, n7.symm, n8.symm⟩
  ·exact ⟨h.fs.1, n3, n5.symm, n6.symm⟩
  exact ⟨h.fs.2.2.1 i hi, (n2 i hi).2.2.1, (n2 i hi).2.2.2.1, (n2 i hi).2.2.2.2⟩
 have od6 : OwnI (w5.setCell ⟨q, 3, none⟩ v6) 3 .i64 v6 (L5.map Pg.f) := od5.chg y6 (fun i hi hm => by simp at hm; subst hm; rw [hv6o] at hi; exact (n2 _ hi).1 rfl)
 have mp6 := (mp4.chg y5 (fun hm => (n2 _ hm).2.1 rfl)).chg y6 (by simp; exact n1)
 have fl6 := H3.fl.chg y36 (fun i hi hm => (own_fs i hm).1 hi)
 have pg6 : ∀ (i : Nat) (r : Pg) (b : Nat), s3.L[i]? = some r → B[i]? = some b → PgB (w5.setCell ⟨q, 3, none⟩ v6) b r := fun i r b e1 e2 => Blk.chg_ (H3.pg i r b e1 e2) y36 (fun hm => (own_fs b hm).2.1 (List.mem_of_getElem? e2))
 have hm6 : MemAt (w5.setCell ⟨q, 3, none⟩ v6) hp hb n s3.W := ⟨H3.hm.st.chg_ y36 (fun hm => (own_fs _ hm).2.2.1 rfl), H3.hm.ws.chg_ y36 (fun hm => (own_fs _ hm).2.2.2 rfl), H3.hm.len, H3.hm.pos, H3.hm.le⟩
 have b6 := b3.chg_ y36 (fun hm => by have := h.lt _ (hDv _ hm); omega)
 rw [hfr3] at fl6
 have hgv : giveB a m s.fr p = true := by
  unfold giveB
  rw [Bool.and_eq_true, decide_eq_true_eq]
  refine ⟨by omega, ?_⟩
  simp only [Bool.not_eq_true', List.contains_eq_mem, decide_eq_false_iff_not]
  intro hm
  exact (List.nodup_append.1 hok.nd).2.2 p (List.mem_map.2 ⟨g, (pgAt_mem hg).1, g5⟩) p hm rfl
 have hgL : giveL a m s.fr p = s.fr ++ [p] := by unfold giveL; rw [hgv]; rfl
 have hge3 := H3.ge; have he83 := H3.e8
 clear st4 y34 b4 od4 hrng q5 f5 od5 mp4 y4 q3 H3
 generalize w5.setCell ⟨q, 3, none⟩ v6 = w6 at *
 have d1 := st6.cell 1
 have dp := b6.cell 0
 simp only [qA, qZ, qS, qI, qU, qO] at d1 dp
 have hGive := fun w' (y : Chg [] w6 w') => FGive_at FS fp a m s.fr p w' (fl6.chg y (by simp)) hp'
 rw [hgv, hgL] at hGive
 refine wp_region_still_tail 5 (by kernel_rfl) (by kernel_rfl) ?_
 simp only [List.take_succ_cons, List.take_zero, List.drop_succ_cons, List.drop_zero]
 change wpStill _ _ (World.drew _) _ _ _
 iterate 5 still_step
 refine wpStill_nil ?_
 change wpList _ _ _ _ _ (World.drew _)
 clear d1 dp
 go_wp2_with fail
 refine (hGive _ (Chg.refl [] w6).drew).mono ?_; rintro e w7 ⟨FS', rfl, y7, fl7, gr7⟩
 clear hGive
 go_wp2_with fail
 go_ret
 have y67 : Chg FS w6 w7 := ((Chg.refl [] w6).drew.weak (by simp)).trans y7 (fun _ _ hm => hm)
 have hFSq : ∀ i, i ∈ FS → i ∈ stS q mp FS v B := fun i hi => by simp [stS, hi]
 have hall : ∀ i ∈ stS q mp FS v B, i < w.heap.size := h.lt
 have ch3 : Chg (hb :: stS q mp FS v B) w w3 := y13.weak (fun i _ hi => by simp only [List.mem_cons] at hi; rcases hi with rfl | hi; simp; simp [stS, hi])
 have hE := fun i (hi : i ∈ FS') => gr7 i hi
 have hnfs : ∀ i, i < w3.heap.size → i ∉ FS → i ∉ FS' := fun i hi hn hm => by
  rcases hE i hm with h1 | h1
  ·exact hn h1
  have h2 : w6.drew.heap.size = w6.heap.size := rfl
  have := y36.size; omega
 have hz3 : w.heap.size ≤ w3.heap.size := y13.size
 rw [her.out] at od6
 refine ⟨rfl, FS', v6, B.eraseIdx j3, ?_, ((ch3.trans y36 (fun i _ hi => List.mem_cons_of_mem _ (hDv i hi))).trans y67 (fun i _ hi => List.mem_cons_of_mem _ (hFSq i hi))), ?_⟩
 ·rw [hds.out, her.out]
  have hbl3 : B.length = s3.L.length := by rw [hlen3]; exact h.bl
  have hnd3 : (s3.L.map Pg.f).Nodup := by rw [hmap3]; exact h.nd
  have hj3 : j3 < s3.L.length := (List.getElem?_eq_some_iff.1 k1).1
  refine ⟨y67.blk st6 h.fs.1, fl7, ?_, od6.chg y67 (fun i hi hm => ?_), ?_, h.nb.sublist (List.eraseIdx_sublist _ _), ?_, ⟨y67.blk hm6.st h.hs.1, y67.blk hm6.ws h.hs.2, hm6.len, hm6.pos, hm6.le⟩, ?_, ?_, ?_, ⟨?_, ?_, ?_, ?_⟩, ?_, ?_⟩
  ·show PtrM _ _ _ _ (s3.L.eraseIdx j3).length _
   rw [List.length_eraseIdx_of_lt hj3]
   exact (mp6.chg y67 h.fs.2.1).congr fun x => by rw [blkF_erase hnd3 hbl3 k1, k5]
  ·rw [hv6o] at hi; exact h.fs.2.2.1 i hi hm
  ·show (B.eraseIdx j3).length = (s3.L.eraseIdx j3).length
   rw [List.length_eraseIdx_of_lt hj3, List.length_eraseIdx_of_lt (by omega), hbl3]
  ·intro i r b e1 e2
   simp only at e1
   rw [List.getElem?_eraseIdx] at e1 e2
   have key : ∃ i' : Nat, s3.L[i']? = some r ∧ B[i']? = some b := by
    split at e1
    ·rename_i hlt; rw [if_pos hlt] at e2; exact ⟨_, e1, e2⟩
    rename_i hlt; rw [if_neg hlt] at e2; exact ⟨_, e1, e2⟩
   obtain ⟨i', e3, e4⟩ := key
   exact Blk.chg_ (pg6 i' r b e3 e4) y67 (h.fs.2.2.2 b (List.mem_of_getElem? e4))
  ·show ((s3.L.eraseIdx j3).map Pg.f).Nodup
   exact hnd3.sublist ((List.eraseIdx_sublist _ _).map _)
  ·intro r hr
   exact hge3 r ((List.eraseIdx_sublist _ _).subset hr)
  ·intro r hr
   exact he83 r ((List.eraseIdx_sublist _ _).subset hr)
  ·exact hnfs q (by have := hall q (by simp [stS]); omega) h.fs.1
  ·exact hnfs mp (by have := hall mp (by simp [stS]); omega) h.fs.2.1
  ·intro i hi; rw [hv6o] at hi; exact hnfs i (by have := h.od.lt i hi; omega) (h.fs.2.2.1 i hi)
  ·intro i hi
   have hi' := (List.eraseIdx_sublist _ _).subset hi
   exact hnfs i (by have := hall i (by simp [stS, hi']); omega) (h.fs.2.2.2 i hi')
  ·exact hnfs hp (by have := h.hm.st.lt; omega) h.hs.1
  exact hnfs hb (by have := h.hm.ws.lt; omega) h.hs.2
 intro i hi
 simp only [stS, List.mem_cons, List.mem_append] at hi
 rcases hi with rfl | rfl | hi | hi | hi
 ·exact .inl (by simp [stS])
 ·exact .inl (by simp [stS])
 ·rw [hv6o] at hi; exact .inl (hDv i (by simp only [List.mem_cons]; exact .inr (.inr hi)))
 ·rcases hE i hi with h1 | h1
  ·exact .inl (hFSq i h1)
  right
  have h2 : w6.drew.heap.size = w6.heap.size := rfl
  have := y36.size; omega
 have hi' := (List.eraseIdx_sublist _ _).subset hi
 exact .inl (by simp [stS, hi'])
end
end Go.Proofs.YtmbgepafpcbakaaGreatDoor
namespace Go.Proofs.YtmbgepafpcbakaaGreatDoor
open Go.RowKit Go.Maps
def stT (q hp hb n a m : Nat) (s : Sr) : Th where
 at_ w U := ∃ S, U = hb :: hp :: S ∧ StIn w S q hp hb n a m s ∧ SrOk n a m s
 lt := by
  rintro w U ⟨S, rfl, h, _⟩ i hi
  simp only [List.mem_cons] at hi
  rcases hi with rfl | rfl | hi
  ·exact h.mem.ws.lt
  ·exact h.mem.st.lt
  exact h.lt i hi
 chg := by
  rintro w w' U T ⟨S, rfl, h, ok⟩ hc hn
  exact ⟨S, rfl, h.chg hc (fun i hi => hn i (by simp [hi])) (hn hp (by simp)) (hn hb (by simp)), ok⟩
section
variable {w0 w w' : World} {l : List Th} {q hp hb n a m : Nat} {s : Sr} {W : List Int}
theorem SepC.stx (H : SepC w0 w (stT q hp hb n a m s :: l)) : ∃ fp mp FS v B, StX w q hp hb n a m s fp mp FS v B := by
 obtain ⟨_, ⟨S, _, ⟨fp, mp, FS, v, B, h, _⟩, _⟩, _⟩ := H.fst
 exact ⟨fp, mp, FS, v, B, h⟩
theorem SepC.sok (H : SepC w0 w (stT q hp hb n a m s :: l)) : SrOk n a m s := by
 obtain ⟨_, ⟨S, _, _, ok⟩, _⟩ := H.fst
 exact ok
theorem SepC.smem (H : SepC w0 w (stT q hp hb n a m s :: l)) : MemAt w hp hb n s.W := by
 obtain ⟨_, _, _, _, _, h⟩ := H.stx; exact h.hm
theorem SepC.stCall {s1 : Sr} {f : FuncId} {args : Array Value} {u : Value} {prog : Program} (H : SepC w0 w (stT q hp hb n a m s :: l)) (ok : SrOk n a m s → SrOk n a m s1)
  (hc : ∀ fp mp FS v B, StX w q hp hb n a m s fp mp FS v B → Calls prog f args w fun e w' => e = .returned u ∧ ∃ FS' v' B', StX w' q hp hb n a m s1 fp mp FS' v' B' ∧ Chg (hb :: stS q mp FS v B) w w' ∧ ∀ i ∈ stS q mp FS' v' B', i ∈ stS q mp FS v B ∨ w.heap.size ≤ i) :
  Calls prog f args w fun e w' => e = .returned u ∧ SepC w0 w' (stT q hp hb n a m s1 :: l) := by
 refine H.callV fun U V hU hn hV => ?_
 obtain ⟨S, rfl, ⟨fp, mp, FS, v, B, h, rfl⟩, hok⟩ := hU
 refine (hc fp mp FS v B h).mono fun _ _ ⟨he, FS', v', B', h', y, hg⟩ => ⟨he, hb :: hp :: stS q mp FS' v' B', ⟨_, rfl, ⟨fp, mp, FS', v', B', h', rfl⟩, ok hok⟩, y.weak (fun i _ hi => ?_), fun i hi => ?_⟩
 ·simp only [List.mem_cons] at hi ⊢
  rcases hi with hi | hi
  ·exact .inl hi
  exact .inr (.inr hi)
 simp only [List.mem_cons] at hi ⊢
 rcases hi with hi | hi | hi
 ·exact .inl (.inl hi)
 ·exact .inl (.inr (.inl hi))
 exact (hg i hi).imp (fun h => .inr (.inr h)) id
theorem SepC.sNew (H : SepC w0 w (hoT hp hb n W :: l)) (hB : a + m ≤ n) :
  Calls Tryz.prog 49 #[.pointer (some ⟨hp, 0, none⟩), .int .i64 a, .int .i64 m] w fun e w' => ∃ q, e = .returned (.pointer (some ⟨q, 0, none⟩)) ∧ SepC w0 w' (stT q hp hb n a m ⟨[], dnk a m, W⟩ :: l) := by
 refine (Snew_yes hp hb n W a m w H.hmem hB).mono fun _ _ ⟨q, S, he, hs, ok, y, hg⟩ => ⟨q, he, ?_⟩
 refine H.step (P' := stT q hp hb n a m ⟨[], dnk a m, W⟩) (S := [hb, hp]) (S' := hb :: hp :: S) (fun _ h => h.1) (y.weak (by simp)) ⟨S, rfl, hs, ok⟩ fun i hi => ?_
 simp only [List.mem_cons] at hi
 rcases hi with hi | hi | hi
 ·exact .inl (by simp [hi])
 ·exact .inl (by simp [hi])
 exact .inr (hg i hi)
theorem SepC.sMake (H : SepC w0 w (stT q hp hb n a m s :: l)) (k : Ky) : Calls Tryz.prog 45 #[.pointer (some ⟨q, 0, none⟩), .agg k.cs] w fun e w' => e = .returned (.tuple #[.int .i64 (makeV s k), .bool (makeB s k)]) ∧ SepC w0 w' (stT q hp hb n a m (makeS n s k) :: l) :=
 H.stCall (fun ok => ok.make k) fun _ _ FS _ _ h => (Smake_any k w h H.sok).mono fun _ _ ⟨he, v', B', h', y, hg⟩ => ⟨he, FS, v', B', h', y, hg⟩
theorem hbB_weak {mp : Nat} {FS B : List Nat} {v : Value} (y : Chg (hb :: B) w w') : Chg (hb :: stS q mp FS v B) w w' := y.weak fun i _ hi => by
 simp only [List.mem_cons] at hi ⊢
 rcases hi with hi | hi
 ·exact .inl hi
 exact .inr (by simp [stS, hi])
theorem SepC.sChild (H : SepC w0 w (stT q hp hb n a m s :: l)) (p i c : Int) (r : Rg) (hp' : -9223372036854775808 ≤ p ∧ p ≤ 9223372036854775807) (hc' : -9223372036854775808 ≤ c ∧ c ≤ 9223372036854775807) :
  Calls Tryz.prog 162 #[.pointer (some ⟨q, 0, none⟩), .int .i64 p, .int .i64 i, .int .i64 c, .agg r.cs] w fun e w' => e = .returned (.bool (childB s p i c)) ∧ SepC w0 w' (stT q hp hb n a m (childS n s p i c r) :: l) :=
 H.stCall (fun ok => ok.child p i c r) fun _ _ FS v B h => (Schild_any p i c r w h H.sok hp' hc').mono fun _ _ ⟨he, h', y⟩ => ⟨he, FS, v, B, h', hbB_weak y, fun _ hi => .inl hi⟩
theorem SepC.sLeaf (H : SepC w0 w (stT q hp hb n a m s :: l)) (p i g x : Int) (r : Rg) (hp' : -9223372036854775808 ≤ p ∧ p ≤ 9223372036854775807) :
  Calls Tryz.prog 165 #[.pointer (some ⟨q, 0, none⟩), .int .i64 p, .int .i64 i, .int .i64 g, .int .i64 x, .agg r.cs] w fun e w' => e = .returned (.bool (leafB n s p i x)) ∧ SepC w0 w' (stT q hp hb n a m (leafS n s p i g x r) :: l) :=
 H.stCall (fun ok => ok.leaf p i g x r) fun _ _ FS v B h => (Sleaf_any p i g x r w h H.sok hp').mono fun _ _ ⟨he, h', y⟩ => ⟨he, FS, v, B, h', hbB_weak y, fun _ hi => .inl hi⟩
theorem SepC.sClear (H : SepC w0 w (stT q hp hb n a m s :: l)) (p i : Int) (hp' : -9223372036854775808 ≤ p ∧ p ≤ 9223372036854775807) :
  Calls Tryz.prog 180 #[.pointer (some ⟨q, 0, none⟩), .int .i64 p, .int .i64 i] w fun e w' => e = .returned (.bool (clearB s p i)) ∧ SepC w0 w' (stT q hp hb n a m (clearS n s p i) :: l) :=
 H.stCall (fun ok => ok.clear p i) fun _ _ FS v B h => (Sclear_any p i w h hp').mono fun _ _ ⟨he, h', y⟩ => ⟨he, FS, v, B, h', hbB_weak y, fun _ hi => .inl hi⟩
theorem SepC.sDrop (H : SepC w0 w (stT q hp hb n a m s :: l)) (p : Int) (hp' : -9223372036854775808 ≤ p ∧ p ≤ 9223372036854775807) :
  Calls Tryz.prog 113 #[.pointer (some ⟨q, 0, none⟩), .int .i64 p] w fun e w' => e = .returned (.bool (dropB s p)) ∧ SepC w0 w' (stT q hp hb n a m (dropS s p) :: l) := by
 cases hd : dropB s p with
 | true => exact H.stCall (fun ok => ok.drop p) fun _ _ _ _ _ h => Sdrop_yes p w h H.sok hp' hd
 | false =>
  have e : dropS s p = s := by unfold dropS; rw [if_neg (by rw [hd]; simp)]
  rw [e]
  obtain ⟨_, _, _, _, _, h⟩ := H.stx
  exact (Sdrop_no p w h hp' hd).mono fun _ _ ⟨he, y⟩ => ⟨he, H.new y⟩
theorem SepC.sFind (H : SepC w0 w (stT q hp hb n a m s :: l)) (k : Ky) : Calls Tryz.prog 38 #[.pointer (some ⟨q, 0, none⟩), .agg k.cs] w fun e w' => e = .returned (.tuple #[.int .i64 (findV s.L k), .bool (pgOf s.L k).isSome]) ∧ Chg [] w w' := by
 obtain ⟨_, _, _, _, _, h⟩ := H.stx; exact Sfind_any k w h
theorem SepC.sKey (H : SepC w0 w (stT q hp hb n a m s :: l)) (p : Int) (hp' : -9223372036854775808 ≤ p ∧ p ≤ 9223372036854775807) : Calls Tryz.prog 43 #[.pointer (some ⟨q, 0, none⟩), .int .i64 p] w fun e w' => e = .returned (.tuple #[.agg (keyV s.L p).cs, .bool (pgAt s.L p).isSome]) ∧ Chg [] w w' := by
 obtain ⟨_, _, _, _, _, h⟩ := H.stx; exact Skey_any p w h hp'
theorem SepC.sSlot (H : SepC w0 w (stT q hp hb n a m s :: l)) (p i : Int) (hp' : -9223372036854775808 ≤ p ∧ p ≤ 9223372036854775807) : Calls Tryz.prog 44 #[.pointer (some ⟨q, 0, none⟩), .int .i64 p, .int .i64 i] w fun e w' => e = .returned (.tuple #[.agg (slotV s.L p i).cl.toArray, .bool (slotP s.L p i).isSome]) ∧ Chg [] w w' := by
 obtain ⟨_, _, _, _, _, h⟩ := H.stx; exact Sslot_any p i w h hp'
theorem SepC.sLeft (H : SepC w0 w (stT q hp hb n a m s :: l)) : Calls Tryz.prog 42 #[.pointer (some ⟨q, 0, none⟩)] w fun e w' => e = .returned (.int .i64 s.fr.length) ∧ Chg [] w w' := by
 obtain ⟨_, _, _, _, _, h⟩ := H.stx; exact Sleft_any w h
theorem SrOk.le256 (h : SrOk n a m s) : s.L.length ≤ 256 := by have := h.cnt; have := h.le; have := h.n256; omega
theorem SepC.sParents (H : SepC w0 w (stT q hp hb n a m s :: l)) (p : Int) : Calls Tryz.prog 179 #[.pointer (some ⟨q, 0, none⟩), .int .i64 p] w fun e w' => ∃ A c, e = .returned (.slice A (toldP 1 p s.L).length c) ∧ SepC w0 w' (ownT atE 104 (.slice A (toldP 1 p s.L).length c) (toldP 1 p s.L) :: stT q hp hb n a m s :: l) := by
 obtain ⟨_, _, _, _, _, h⟩ := H.stx
 exact (Sparents_any p w h H.sok.le256).mono fun _ _ ⟨A, c, he, ho, hg, y⟩ => ⟨A, c, he, H.lay y ⟨rfl, ho⟩ hg⟩
theorem SepC.sLeaves (H : SepC w0 w (stT q hp hb n a m s :: l)) (p : Int) : Calls Tryz.prog 183 #[.pointer (some ⟨q, 0, none⟩), .int .i64 p] w fun e w' => ∃ A c, e = .returned (.slice A (toldP 2 p s.L).length c) ∧ SepC w0 w' (ownT atE 104 (.slice A (toldP 2 p s.L).length c) (toldP 2 p s.L) :: stT q hp hb n a m s :: l) := by
 obtain ⟨_, _, _, _, _, h⟩ := H.stx
 exact (Sleaves_any p w h H.sok.le256).mono fun _ _ ⟨A, c, he, ho, hg, y⟩ => ⟨A, c, he, H.lay y ⟨rfl, ho⟩ hg⟩
theorem SepC.sAll (H : SepC w0 w (stT q hp hb n a m s :: l)) : Calls Tryz.prog 23 #[.pointer (some ⟨q, 0, none⟩)] w fun e w' => ∃ A c, e = .returned (.slice A (s.L.map Pg.f).length c) ∧ SepC w0 w' (ownT (numE .i64) 3 (.slice A (s.L.map Pg.f).length c) (s.L.map Pg.f) :: stT q hp hb n a m s :: l) := by
 obtain ⟨_, _, _, _, _, h⟩ := H.stx
 exact (Sall_any w h H.sok.le256).mono fun _ _ ⟨A, c, he, ho, hg, y⟩ => ⟨A, c, he, H.lay y ⟨rfl, ho⟩ hg⟩
theorem SepC.sOf (H : SepC w0 w (stT q hp hb n a m s :: l)) (g : Int) : Calls Tryz.prog 95 #[.pointer (some ⟨q, 0, none⟩), .int .i64 g] w fun e w' => ∃ A c, e = .returned (.slice A (ofP s.L g).length c) ∧ SepC w0 w' (ownT (numE .i64) 3 (.slice A (ofP s.L g).length c) (ofP s.L g) :: stT q hp hb n a m s :: l) := by
 obtain ⟨_, _, _, _, _, h⟩ := H.stx
 exact (Sof_any g w h H.sok.le256).mono fun _ _ ⟨A, c, he, ho, hg, y⟩ => ⟨A, c, he, H.lay y ⟨rfl, ho⟩ hg⟩
end
end Go.Proofs.YtmbgepafpcbakaaGreatDoor
