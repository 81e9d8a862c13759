/-
 RgA, RgB, RgD in one text.
-/
import Derived.Test.YtgjfidjhbkaobaaGreatGD3K
import Derived.Test.YtgjfidjhbkaobaaGreatGR2K
import Derived.Test.YtgjfidjhbkaobaaGreatRTlbsK
import Derived.Test.YtgjfidjhbkaobaaGreatG7rK
namespace Go.Proofs.YtgjfidjhbkaobaaGreat
open Go.RowKit Go.Maps
def rmapT (p : Nat) (L : List Int) : Th where
 at_ w S := RGAt w S p L
 lt := by
  rintro w S ⟨v, h1, h2, rfl, _⟩ i hi
  rcases List.mem_cons.1 hi with rfl | hi
  ·exact h1.lt
  exact h2.lt i hi
 chg := fun h hc hn => h.chg hc hn
def rguC (mp rp : Nat) : Array Value := #[.pointer (some ⟨rp, 0, none⟩), .pointer (some ⟨mp, 0, none⟩)]
section
variable {w0 w w' : World} {dd gq mp q rp rb t n a m most : Nat} {L : List Int} {v : Value} {s : Sr} {T : List Ht} {ll : List Int} {l : List Th} {d : Gd}
theorem SepC.rtAll (H : SepC w0 w (rtlbT t most T :: l)) : Calls Tryz.prog 102 #[.pointer (some ⟨t, 0, none⟩)] w fun e w' => e = .returned (.tuple #[]) ∧ SepC w0 w' (rtlbT t most [] :: l) :=
 H.callV fun S _ hS _ _ => (RTAll_at S t most T w hS).mono fun _ _ ⟨S', he, y, h, hG⟩ => ⟨he, S', h, y, hG⟩
theorem SepC.rmHost (H : SepC w0 w (rmapT mp L :: l)) (g : Int) : Calls Tryz.prog 92 #[.pointer (some ⟨mp, 0, none⟩), .int .i64 g] w fun e w' => e = .returned (.tuple #[.int .i64 (atV L g), .bool (atB L.length g)]) ∧ w = w' := by
 obtain ⟨S, h, _⟩ := H.fst
 exact RGHost_at S mp L g w h
theorem SepC.rguIn (H : SepC w0 w (blkT dd 99 (gdC gq mp q t (v)) :: ownT (numE .i64) 3 (v) (ll) :: rstT q rp rb n a m (s) :: rtlbT t most (T) :: rmapT mp L :: blkT gq 147 (rguC mp rp) :: l)) (hi : InH n L) : ∃ S, RGuIn w gq S mp L rp rb n s.W := by
 obtain ⟨S, h, _⟩ := H.at4.fst
 exact ⟨S, H.at5.blk, h, H.at2.rmem, hi⟩
theorem SepC.rgGet (H : SepC w0 w (blkT dd 99 (gdC gq mp q t (v)) :: ownT (numE .i64) 3 (v) (ll) :: rstT q rp rb n a m (s) :: rtlbT t most (T) :: rmapT mp L :: blkT gq 147 (rguC mp rp) :: l)) (hi : InH n L) (g i : Int) : Calls Tryz.prog 106 #[.pointer (some ⟨gq, 0, none⟩), .int .i64 g, .int .i64 i] w fun e w' => e = .returned (.tuple #[.int .u64 (getG n s.W L g i), .bool (hasG n L g i)]) ∧ w = w' := by
 obtain ⟨S, h⟩ := H.rguIn hi
 exact RGuGet_at gq S mp L rp rb n s.W g i w h
theorem SepC.rgSet (H : SepC w0 w (blkT dd 99 (gdC gq mp q t (v)) :: ownT (numE .i64) 3 (v) (ll) :: rstT q rp rb n a m (s) :: rtlbT t most (T) :: rmapT mp L :: blkT gq 147 (rguC mp rp) :: l)) (hi : InH n L) (ha : ∀ h ∈ L, ¬ ((a : Int) ≤ h ∧ h < a + m)) (g i x : Int) : Calls Tryz.prog 47 #[.pointer (some ⟨gq, 0, none⟩), .int .i64 g, .int .i64 i, .int .u64 x] w fun e w' => e = .returned (.bool (hasG n L g i)) ∧ SepC w0 w' (blkT dd 99 (gdC gq mp q t (v)) :: ownT (numE .i64) 3 (v) (ll) :: rstT q rp rb n a m (setGd n L s g i x) :: rtlbT t most (T) :: rmapT mp L :: blkT gq 147 (rguC mp rp) :: l) := by
 obtain ⟨S, h⟩ := H.rguIn hi
 have hc := RGuSet_at gq S mp L rp rb n s.W g i x w h
 refine (H.at2.rCall (s1 := setGd n L s g i x) (fun ok => ok.guest hi ha g i x) fun fp LA lc R FS hx => ?_).mono fun _ _ ⟨he, H'⟩ => ⟨he, H'.bk2⟩
 exact hc.mono fun _ _ ⟨he, y, hg⟩ => ⟨he, LA, lc, R, FS, hx.words y hg.hm, y.weak (fun i _ hi => by simp at hi; simp [hi]), fun _ h => .inl h, RNew.refl _ _⟩
set_option maxHeartbeats 1000000 in
theorem SepC.rgLoose (H : SepC w0 w (blkT dd 99 (gdC gq mp q t (v)) :: ownT (numE .i64) 3 (v) (ll) :: rstT q rp rb n a m (s) :: rtlbT t most (T) :: rmapT mp L :: blkT gq 147 (rguC mp rp) :: l)) (g : Int) : Calls Tryz.prog 13 #[.pointer (some ⟨dd, 0, none⟩), .int .i64 g] w fun e w' => e = .returned (.bool (ll.contains g)) ∧ w' = w := by
 have ho := H.at1.own
 have c4 := H.blk.cell 4
 unfold gdC at c4
 simp only [qA, qZ, qS] at c4
 obtain ⟨A, c, rfl, _, _⟩ := ho.form
 have hs := ho.slg
 have hle := hs.le
 obtain ⟨k, hk⟩ : ∃ k, ll.length = k := ⟨_, rfl⟩
 rw [hk] at c4 hs hle
 clear H ho
 replace hk := Lib.hid hk
 obtain ⟨cb, hcb⟩ : ∃ cb, ll.contains g = cb := ⟨_, rfl⟩
 rw [hcb]
 replace hcb := Lib.hid hcb
 go_enter Tryz.func13, Tryz.ntmps13
 go_wp2_with fail
 go_loopw [5] (fun s_ wr => ∃ j : Nat, j ≤ k ∧ s_ = .int .i64 j ∧ Aside (wr = w) ∧ Aside (∀ i, i < j → ll.getD i 0 ≠ g)) (fun s_ _ => k - (intOf s_).toNat)
 case atStart => exact ⟨0, Nat.zero_le _, rfl, rfl, fun j hj => absurd hj (Nat.not_lt_zero _)⟩
 obtain ⟨j, hj, rfl, hW, hN⟩ := hrel
 obtain rfl := hW.out
 clear hW
 by_cases hlt : j < k
 ·have hltz : (j : Int) < (k : Int) := by omega
  obtain ⟨b, off, y, rfl, _, hy, hc⟩ := SlN.get hs hlt
  have hyd : ll.getD j 0 = y := by rw [List.getD_eq_getElem?_getD, hy]; rfl
  replace hyd := Lib.hid hyd; replace hy := Lib.hid hy
  by_cases hxy : y = g
  ·have hb : (y == g) = true := by simpa using hxy
   have e_ : cb = true := by rw [← hcb.out, List.contains_iff_mem, ← hxy]; exact List.mem_of_getElem? hy.out
   subst e_
   replace hxy := Lib.hid hxy
   go_wp2_with fail
   go_ret
   exact ⟨rfl, rfl⟩
  have hb : (y == g) = false := by simpa using hxy
  replace hxy := Lib.hid hxy
  go_wp2_with fail
  go_roundw
  case rel =>
   refine ⟨j + 1, by omega, by go_num, (by first | exact trivial | exact rfl), (show Aside _ from fun i hi => ?_)⟩
   by_cases e : i = j
   ·subst e; rw [hyd.out]; exact hxy.out
   exact hN.out i (by omega)
  case measure => simp [intOf]; omega
 have hltz : ¬ (j : Int) < (k : Int) := by omega
 have ej : k = j := by omega
 subst ej
 have hcon : ll.contains g = false := by
  rw [Bool.eq_false_iff]; intro h
  rw [List.contains_iff_mem] at h
  obtain ⟨i, hi, e⟩ := List.getElem_of_mem h
  exact hN.out i (by have := hk.out; omega) (by rw [List.getD_eq_getElem?_getD, List.getElem?_eq_getElem hi]; exact e)
 have e_ : cb = false := by rw [← hcb.out]; exact hcon
 subst e_
 clear hcon hN
 go_wp2_with fail
 go_ret
 exact ⟨rfl, rfl⟩
end
section
variable {w0 w w' : World} {dd gq mp q rp rb t n a m most : Nat} {L : List Int} {v : Value} {s : Sr} {T : List Ht} {ll : List Int} {l : List Th} {d : Gd}
set_option maxHeartbeats 1000000 in
theorem SepC.rgZap (H : SepC w0 w (blkT dd 99 (gdC gq mp q t (v)) :: ownT (numE .i64) 3 (v) ((d).l) :: rstT q rp rb n a m ((d).s) :: rtlbT t most ((d).T) :: rmapT mp L :: blkT gq 147 (rguC mp rp) :: l)) (p i : Int) :
  Calls Tryz.prog 56 #[.pointer (some ⟨dd, 0, none⟩), .int .i64 p, .int .i64 i] w fun e w' => e = .returned (.bool (clearB d.s p i)) ∧ SepC w0 w' (blkT dd 99 (gdC gq mp q t (v)) :: ownT (numE .i64) 3 (v) ((zapG n d p i).l) :: rstT q rp rb n a m ((zapG n d p i).s) :: rtlbT t most ((zapG n d p i).T) :: rmapT mp L :: blkT gq 147 (rguC mp rp) :: l) := by
 have hC := H.at2.rClear p i
 have hz : zapG n d p i = if clearB d.s p i then ⟨clearS n d.s p i, [], d.l⟩ else d := rfl
 have hz0 : clearB d.s p i = false → clearS n d.s p i = d.s := fun h => by unfold clearS; rw [h]; rfl
 rw [hz]
 clear hz
 have c2 := H.blk.cell 2
 unfold gdC at c2
 simp only [qA, qZ, qS] at c2
 cases hb_ : clearB d.s p i
 ·rw [hb_] at hC
  rw [hz0 hb_] at hC
  clear hz0 hb_
  go_enter Tryz.func56, Tryz.ntmps56
  go_wp2_with fail
  refine hC.mono ?_; rintro e w1 ⟨rfl, H1⟩
  clear hC
  go_wp2_with fail
  go_ret
  exact ⟨rfl, H1.bk2⟩
 rw [hb_] at hC
 clear hz0 hb_
 simp only [if_true]
 generalize clearS n d.s p i = s1 at *
 go_enter Tryz.func56, Tryz.ntmps56
 go_wp2_with fail
 refine hC.mono ?_; rintro e w1 ⟨rfl, H1⟩
 clear hC H c2
 replace H1 := H1.bk2
 have c3 := H1.blk.cell 3
 unfold gdC at c3
 simp only [qA, qZ, qS] at c3
 have hA := H1.at3.rtAll
 go_wp2_with fail
 refine hA.mono ?_; rintro e w2 ⟨rfl, H2⟩
 clear hA c3 H1
 go_wp2_with fail
 go_ret
 exact ⟨rfl, H2.bk3⟩
set_option maxRecDepth 100000 in
set_option maxHeartbeats 4000000 in
theorem SepC.rgWord (H : SepC w0 w (blkT dd 99 (gdC gq mp q t (v)) :: ownT (numE .i64) 3 (v) ((d).l) :: rstT q rp rb n a m ((d).s) :: rtlbT t most ((d).T) :: rmapT mp L :: blkT gq 147 (rguC mp rp) :: l)) (hok : SrOk n a m d.s) (g i : Int) :
  Calls Tryz.prog 57 #[.pointer (some ⟨dd, 0, none⟩), .int .i64 g, .int .i64 i] w fun e w' => e = .returned (.tuple #[]) ∧ SepC w0 w' (blkT dd 99 (gdC gq mp q t (v)) :: ownT (numE .i64) 3 (v) ((wordG n d g i).l) :: rstT q rp rb n a m ((wordG n d g i).s) :: rtlbT t most ((wordG n d g i).T) :: rmapT mp L :: blkT gq 147 (rguC mp rp) :: l) := by
 obtain ⟨K, hK0, hKe, hKs⟩ : ∃ K : Nat → Gd, K 0 = d ∧ K (ofP d.s.L g).length = wordG n d g i ∧ (∀ k x, (ofP d.s.L g)[k]? = some x → K (k + 1) = zapG n (K k) x i) := by
  refine ⟨fun k => ((ofP d.s.L g).take k).foldl (fun d p => zapG n d p i) d, rfl, by simp only [List.take_length]; rfl, fun k x hx => ?_⟩
  have hk := (List.getElem?_eq_some_iff.1 hx).1
  simp only [List.take_succ_eq_append_getElem hk, List.foldl_append, (List.getElem?_eq_some_iff.1 hx).2]; rfl
 have hPs : ∀ p ∈ ofP d.s.L g, i64B p := fun p hp => by
  obtain ⟨q_, hq, rfl, _⟩ := of_mem.1 hp
  have h1 := hok.inL hq; have h2 := hok.le; have h3 := hok.n256
  unfold i64B; omega
 have hOf := H.at2.rOf g
 generalize wordG n d g i = E at *
 obtain ⟨P, hP⟩ : ∃ P, ofP d.s.L g = P := ⟨_, rfl⟩
 rw [hP] at hOf hKe hKs hPs
 obtain ⟨N, hN⟩ : ∃ N, P.length = N := ⟨_, rfl⟩
 rw [hN] at hOf hKe
 clear hP hok
 replace hK0 := Lib.hid hK0; replace hKe := Lib.hid hKe; replace hKs := Lib.hid hKs; replace hN := Lib.hid hN
 have c2 := H.blk.cell 2
 unfold gdC at c2
 simp only [qA, qZ, qS] at c2
 go_enter Tryz.func57, Tryz.ntmps57
 go_wp2_with fail
 refine hOf.mono ?_; rintro e w4 ⟨A0, c0, rfl, H4⟩
 clear hOf H c2
 replace H4 : SepC w0 w4 (ownT (numE .i64) 3 (.slice A0 N c0) P :: blkT dd 99 (gdC gq mp q t (v)) :: ownT (numE .i64) 3 (v) ((d).l) :: rstT q rp rb n a m ((d).s) :: rtlbT t most ((d).T) :: rmapT mp L :: blkT gq 147 (rguC mp rp) :: l) := ((H4.pick 3 rfl).pick 3 rfl).pick 2 rfl
 go_wp2_with fail
 go_loopw [7] (fun s15 wr => ∃ k : Nat, k ≤ N ∧ s15 = .int .i64 k ∧ SepC w0 wr (ownT (numE .i64) 3 (.slice A0 N c0) P :: blkT dd 99 (gdC gq mp q t (v)) :: ownT (numE .i64) 3 (v) ((K k).l) :: rstT q rp rb n a m ((K k).s) :: rtlbT t most ((K k).T) :: rmapT mp L :: blkT gq 147 (rguC mp rp) :: l)) (fun s15 _ => N - (intOf s15).toNat)
 case atStart => exact ⟨0, Nat.zero_le _, rfl, by rw [hK0.out]; exact H4⟩
 obtain ⟨k, hk, rfl, H⟩ := hrel
 clear H4
 have hcp := H.own.cap
 have hN9 : N ≤ 9223372036854775807 := by omega
 clear hcp
 by_cases hlt : k < N
 ·have hltz : (k : Int) < (N : Int) := by omega
  obtain ⟨b_, off, x, rfl, _, hx, hat⟩ := SlN.get H.own.slg hlt
  have hst := hKs.out k x hx
  replace hst := Lib.hid hst
  have hz := (SepC.mv6 H).rgZap x i
  clear hx
  generalize clearB (K k).s x i = cb at *
  go_wp2_with fail
  refine hz.mono ?_; rintro e w5 ⟨rfl, H5⟩
  clear hz hat
  rw [← hst.out] at H5
  replace H5 := SepC.mb6 H5
  go_wp2_with fail
  go_roundw
  case rel => exact ⟨k + 1, by omega, by go_num, H5⟩
  case measure => simp [intOf]; omega
 have ek : k = N := by omega
 subst ek
 have hltz : ¬ (k : Int) < (k : Int) := by omega
 rw [hKe.out] at H
 go_wp2_with fail
 go_end0
 exact ⟨rfl, H.tail⟩
set_option maxRecDepth 100000 in
set_option maxHeartbeats 4000000 in
theorem SepC.rgProt (H : SepC w0 w (blkT dd 99 (gdC gq mp q t (v)) :: ownT (numE .i64) 3 (v) ((d).l) :: rstT q rp rb n a m ((d).s) :: rtlbT t most ((d).T) :: rmapT mp L :: blkT gq 147 (rguC mp rp) :: l)) (g : Int) :
  Calls Tryz.prog 11 #[.pointer (some ⟨dd, 0, none⟩), .int .i64 g] w fun e w' => e = .returned (.bool (protB d g)) ∧ SepC w0 w' (blkT dd 99 (gdC gq mp q t (v)) :: ownT (numE .i64) 3 (v) ((d).l) :: rstT q rp rb n a m ((d).s) :: rtlbT t most ((d).T) :: rmapT mp L :: blkT gq 147 (rguC mp rp) :: l) := by
 have hOf := H.at2.rOf g
 have hLo := fun {z : World} {l' : List Th} (H' : SepC w0 z (blkT dd 99 (gdC gq mp q t (v)) :: ownT (numE .i64) 3 (v) ((d).l) :: rstT q rp rb n a m ((d).s) :: rtlbT t most ((d).T) :: rmapT mp L :: blkT gq 147 (rguC mp rp) :: l')) => H'.rgLoose g
 have hp : protB d g = (decide ((ofP d.s.L g).length > 0) && !d.l.contains g) := by rw [prot_loose]; rfl
 rw [hp]
 generalize ofP d.s.L g = P at *
 generalize d.l.contains g = lo at *
 have c2 := H.blk.cell 2
 unfold gdC at c2
 simp only [qA, qZ, qS] at c2
 clear hp
 generalize hN : P.length = N at *
 replace hN := Lib.hid hN
 by_cases h0 : N > 0
 ·have h0z : (N : Int) > 0 := by omega
  rw [decide_eq_true h0, Bool.true_and]
  replace h0 := Lib.hid h0
  go_enter Tryz.func11, Tryz.ntmps11
  go_wp2_with fail
  refine hOf.mono ?_; rintro e w1 ⟨A0, c0, rfl, H1⟩
  clear hOf
  replace H1 : SepC w0 w1 (ownT (numE .i64) 3 (.slice A0 N c0) P :: blkT dd 99 (gdC gq mp q t (v)) :: ownT (numE .i64) 3 (v) ((d).l) :: rstT q rp rb n a m ((d).s) :: rtlbT t most ((d).T) :: rmapT mp L :: blkT gq 147 (rguC mp rp) :: l) := ((H1.pick 3 rfl).pick 3 rfl).pick 2 rfl
  have hL := hLo H1.tail
  clear hLo
  go_wp2_with fail
  refine hL.mono ?_; rintro e w2 ⟨rfl, rfl⟩
  go_wp2_with fail
  go_ret
  exact ⟨rfl, H1.tail⟩
 have h0z : ¬ (N : Int) > 0 := by omega
 rw [decide_eq_false h0, Bool.false_and]
 replace h0 := Lib.hid h0
 go_enter Tryz.func11, Tryz.ntmps11
 go_wp2_with fail
 refine hOf.mono ?_; rintro e w1 ⟨A0, c0, rfl, H1⟩
 clear hOf
 replace H1 : SepC w0 w1 (ownT (numE .i64) 3 (.slice A0 N c0) P :: blkT dd 99 (gdC gq mp q t (v)) :: ownT (numE .i64) 3 (v) ((d).l) :: rstT q rp rb n a m ((d).s) :: rtlbT t most ((d).T) :: rmapT mp L :: blkT gq 147 (rguC mp rp) :: l) := ((H1.pick 3 rfl).pick 3 rfl).pick 2 rfl
 go_wp2_with fail
 go_ret
 exact ⟨rfl, H1.tail⟩
end
section
variable {w0 w w' : World} {dd gq mp q rp rb t n a m most : Nat} {L : List Int} {v : Value} {s : Sr} {T : List Ht} {ll : List Int} {l : List Th} {d : Gd}
set_option maxRecDepth 100000 in
set_option maxHeartbeats 4000000 in
theorem SepC.rgTight (H : SepC w0 w (blkT dd 99 (gdC gq mp q t (v)) :: ownT (numE .i64) 3 (v) (ll) :: rstT q rp rb n a m (s) :: rtlbT t most (T) :: rmapT mp L :: blkT gq 147 (rguC mp rp) :: l)) (g : Int) (hn : ll.length ≤ 1000000) : Calls Tryz.prog 105 #[.pointer (some ⟨dd, 0, none⟩), .int .i64 g] w fun e w' => e = .returned (.tuple #[]) ∧ ∃ v', SepC w0 w' (blkT dd 99 (gdC gq mp q t (v')) :: ownT (numE .i64) 3 (v') (ll.filter fun x => decide (x ≠ g)) :: rstT q rp rb n a m (s) :: rtlbT t most (T) :: rmapT mp L :: blkT gq 147 (rguC mp rp) :: l) := by
 have ho := H.at1.own
 obtain ⟨A, c, rfl, _, _⟩ := ho.form
 clear ho
 obtain ⟨k, hk⟩ : ∃ k, ll.length = k := ⟨_, rfl⟩
 rw [hk] at H hn
 obtain ⟨K, hK0, hKl, hKe, hKs⟩ : ∃ K : Nat → List Int, K 0 = [] ∧ (∀ j, (K j).length ≤ k) ∧ K k = ll.filter (fun x => decide (x ≠ g)) ∧ ∀ j x, ll[j]? = some x → K (j + 1) = if x = g then K j else K j ++ [x] := by
  refine ⟨fun j => (ll.take j).filter fun x => decide (x ≠ g), by simp, fun j => ?_, by simp only [← hk, List.take_length], fun j x hx => ?_⟩
  ·exact Nat.le_trans (List.length_filter_le _ _) (by rw [List.length_take, hk]; exact Nat.min_le_right _ _)
  obtain ⟨h1, h2⟩ := List.getElem?_eq_some_iff.1 hx
  show (ll.take (j + 1)).filter _ = _
  rw [List.take_succ_eq_append_getElem h1, h2, List.filter_append]
  by_cases e : x = g
  ·rw [if_pos e]; simp [e]
  rw [if_neg e]; simp [e]
 rw [← hKe]
 have H1 := H.ownNil (numE .i64) 3
 clear H
 replace hk := Lib.hid hk; replace hK0 := Lib.hid hK0; replace hKe := Lib.hid hKe
 go_enter Tryz.func105, Tryz.ntmps105
 go_wp2_with fail
 go_loopw [4, 5] (fun s4 s5 wr => ∃ (j : Nat) (A0 : Option Addr) (c0 : Nat), j ≤ k ∧ s5 = .int .i64 j ∧ s4 = .slice A0 (K j).length c0 ∧ SepC w0 wr (ownT (numE .i64) 3 (.slice A0 (K j).length c0) (K j) :: blkT dd 99 (gdC gq mp q t ((.slice A k c))) :: ownT (numE .i64) 3 ((.slice A k c)) (ll) :: rstT q rp rb n a m (s) :: rtlbT t most (T) :: rmapT mp L :: blkT gq 147 (rguC mp rp) :: l)) (fun _ s5 _ => k - (intOf s5).toNat)
 case atStart => exact ⟨0, none, 0, Nat.zero_le _, rfl, by rw [hK0.out]; rfl, by rw [hK0.out]; exact H1⟩
 clear H1
 obtain ⟨j, A0, c0, hj, rfl, rfl, H⟩ := hrel
 have c4 := (H.pick 1 rfl).blk.cell 4
 unfold gdC at c4
 simp only [qA, qZ, qS] at c4
 by_cases hlt : j < k
 ·have hltz : (j : Int) < (k : Int) := by omega
  obtain ⟨b, off, x, rfl, _, hx, hc⟩ := SlN.get (H.pick 2 rfl).own.slg hlt
  have hst := hKs j x hx
  replace hst := Lib.hid hst; replace hx := Lib.hid hx
  by_cases hxy : x = g
  ·have hb : (x != g) = false := by simpa using hxy
   have e1 : K (j + 1) = K j := by rw [hst.out, if_pos hxy]
   replace hxy := Lib.hid hxy; replace e1 := Lib.hid e1
   go_wp2_with fail
   go_roundw
   case rel => exact ⟨j + 1, A0, c0, by omega, by go_num, by rw [e1.out], by rw [e1.out]; exact H⟩
   case measure => simp [intOf]; omega
  have hb : (x != g) = true := by simpa using hxy
  have e1 : K (j + 1) = K j ++ [x] := by rw [hst.out, if_neg hxy]
  replace hxy := Lib.hid hxy; replace e1 := Lib.hid e1
  have hown := H.own
  have k4 := ((Chg.refl [] wr).alloc (.cells #[.int .i64 x] 3))
  have hown4 := hown.new k4
  have hsrc4 : Src (wr.alloc (.cells #[.int .i64 x] 3)) (numE .i64).k (some ⟨wr.heap.size, 0, none⟩) 1 1 ((numE .i64).all [x]) := (OwnG.lit (E := numE .i64) (L := [x]) (Blk.new wr 3 #[.int .i64 x]) (by simp)).src
  go_wp2_with (at_builtin; refine wpList_append_G (E := numE .i64) rfl _ _ 56 rfl 3 (.int .i64 0) 8 Tryz.underlying56 int_info rfl (.slice A0 (K j).length c0) (K j) rfl hown4 (some ⟨wr.heap.size, 0, none⟩) 1 1 [x] rfl hsrc4 rfl (by have := hKl j; omega) ?_; intro v5 w5 ho5 hc5 hb5; obtain ⟨A5, c5, rfl, _, _⟩ := ho5.form; rw [← e1.out] at ho5 hb5)
  have H6 := (H.new k4).app ho5 hc5 hb5
  clear H hown hown4 hsrc4 ho5 hc5 hb5 k4
  go_roundw
  case rel => exact ⟨j + 1, A5, c5, by omega, by go_num, by (rw [e1.out, List.length_append]; rfl), H6⟩
  case measure => simp [intOf]; omega
 have ej : k = j := by omega
 subst ej
 have hltz : ¬ (k : Int) < (k : Int) := by omega
 have H2 := H.pick 1 rfl
 have f4 := H2.blk.frozen 4
 obtain ⟨M, hM⟩ : ∃ M, (K k).length = M := ⟨_, rfl⟩
 rw [hM] at H2
 rw [hM]
 clear H
 have H3 := H2.cellSet 4 (.slice A0 M c0)
 replace hM := Lib.hid hM
 go_wp2_with fail
 go_end0
 exact ⟨rfl, .slice A0 M c0, ((H3.pick 2 rfl).tail)⟩
end
end Go.Proofs.YtgjfidjhbkaobaaGreat
