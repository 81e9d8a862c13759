/-
 The document's List, All.
-/
import Derived.Test.YtgjfidjhbkaobaaGreatRgEK
namespace Go.Proofs.YtgjfidjhbkaobaaGreat
open Go.RowKit Go.Maps
section
variable {w0 w w' : World} {dd gq mp q rp rb t n a m most : Nat} {L : List Int} {v : Value} {s : Sr} {T : List Ht} {ll : List Int} {l : List Th} {d : Gd}
set_option maxHeartbeats 1000000 in
theorem SepC.rgList (H : SepC w0 w (blkT dd 99 (gdC gq mp q t (v)) :: ownT (numE .i64) 3 (v) (ll) :: rstT q rp rb n a m (s) :: rtlbT t most (T) :: rmapT mp L :: blkT gq 147 (rguC mp rp) :: l)) (hn : ll.length ≤ 1000000) : Calls Tryz.prog 16 #[.pointer (some ⟨dd, 0, none⟩)] w fun e w' => ∃ A c, e = .returned (.slice A ll.length c) ∧ SepC w0 w' (ownT (numE .i64) 3 (.slice A ll.length c) ll :: blkT dd 99 (gdC gq mp q t (v)) :: ownT (numE .i64) 3 (v) (ll) :: rstT q rp rb n a m (s) :: rtlbT t most (T) :: rmapT mp L :: blkT gq 147 (rguC mp rp) :: l) := by
 have ho := H.at1.own
 obtain ⟨A, c, e_, _, _⟩ := ho.form
 have k4 := (Chg.refl [] w).alloc (.cells #[] 3)
 have H1 : SepC w0 (w.alloc (.cells #[] 3)) (ownT (numE .i64) 3 (.slice (some ⟨w.heap.size, 0, none⟩) 0 0) [] :: blkT dd 99 (gdC gq mp q t (v)) :: ownT (numE .i64) 3 (v) (ll) :: rstT q rp rb n a m (s) :: rtlbT t most (T) :: rmapT mp L :: blkT gq 147 (rguC mp rp) :: l) := H.lay k4 ⟨rfl, OwnG.lit (E := numE .i64) (L := []) (Blk.new w 3 #[]) (by simp)⟩ (by simp [Value.ownBlock])
 have hown := H1.own
 have c4 := (H1.pick 1 rfl).blk.cell 4
 unfold gdC at c4
 simp only [qA, qZ, qS] at c4
 rw [e_] at c4
 have hsrc : Src (w.alloc (.cells #[] 3)) (numE .i64).k A ll.length c ((numE .i64).all ll) := by rw [e_] at ho; exact (ho.new k4).src
 clear ho H
 replace e_ := Lib.hid e_
 obtain ⟨k, hk⟩ : ∃ k, ll.length = k := ⟨_, rfl⟩
 rw [hk] at c4 hsrc hn
 rw [hk]
 go_enter Tryz.func16, Tryz.ntmps16
 go_wp2_with (at_builtin; refine wpList_append_G (E := numE .i64) rfl _ _ 56 rfl 3 (.int .i64 0) 8 Tryz.underlying56 int_info rfl (.slice (some ⟨w.heap.size, 0, none⟩) 0 0) [] rfl hown A k c ll rfl hsrc hk (by simp; omega) ?_; intro v5 w5 ho5 hc5 hb5; obtain ⟨A5, c5, rfl, _, _⟩ := ho5.form)
 go_wp2_with fail
 go_ret
 refine ⟨A5, c5, by rw [← hk]; rfl, ?_⟩
 rw [← hk]
 exact H1.app ho5 hc5 hb5
set_option maxRecDepth 100000 in
set_option maxHeartbeats 4000000 in
theorem SepC.rgAll (H : SepC w0 w (blkT dd 99 (gdC gq mp q t (v)) :: ownT (numE .i64) 3 (v) ((d).l) :: rstT q rp rb n a m ((d).s) :: rtlbT t most ((d).T) :: rmapT mp L :: blkT gq 147 (rguC mp rp) :: l)) (G : GdIn n a m L d) :
  Calls Tryz.prog 60 #[.pointer (some ⟨dd, 0, none⟩)] w fun e w' => e = .returned (.tuple #[]) ∧ ∃ v', SepC w0 w' (blkT dd 99 (gdC gq mp q t (v')) :: ownT (numE .i64) 3 (v') ((looksG n L d).l) :: rstT q rp rb n a m ((looksG n L d).s) :: rtlbT t most ((looksG n L d).T) :: rmapT mp L :: blkT gq 147 (rguC mp rp) :: l) := by
 obtain ⟨K, hK0, hKe, hKs, hKi⟩ : ∃ K : Nat → Gd, K 0 = d ∧ K d.l.length = looksG n L d ∧ (∀ k x, d.l[k]? = some x → K (k + 1) = lookG n L (K k) x) ∧ ∀ k, GdIn n a m L (K k) := by
  refine ⟨fun k => (d.l.take k).foldl (lookG n L) d, rfl, by simp only [List.take_length]; rfl, fun k x hx => ?_, fun k => GdIn.looks _ G⟩
  have hk := (List.getElem?_eq_some_iff.1 hx).1
  simp only [List.take_succ_eq_append_getElem hk, List.foldl_append, (List.getElem?_eq_some_iff.1 hx).2]; rfl
 have hLi := H.rgList (by have := G.len; omega)
 generalize looksG n L d = E at *
 obtain ⟨P, hP⟩ : ∃ P, d.l = P := ⟨_, rfl⟩
 have hP1 : SepC w0 w (blkT dd 99 (gdC gq mp q t (v)) :: ownT (numE .i64) 3 (v) ((d).l) :: rstT q rp rb n a m ((d).s) :: rtlbT t most ((d).T) :: rmapT mp L :: blkT gq 147 (rguC mp rp) :: l) := H
 rw [hP] at hLi hKe hKs
 obtain ⟨N, hN⟩ : ∃ N, P.length = N := ⟨_, rfl⟩
 rw [hN] at hLi hKe
 replace hP := Lib.hid hP
 clear hP1 G
 replace hK0 := Lib.hid hK0; replace hKe := Lib.hid hKe; replace hKs := Lib.hid hKs; replace hN := Lib.hid hN
 go_enter Tryz.func60, Tryz.ntmps60
 go_wp2_with fail
 refine hLi.mono ?_; rintro e w4 ⟨A0, c0, rfl, H4⟩
 clear hLi H
 go_wp2_with fail
 go_loopw [3] (fun s7 wr => ∃ (k : Nat) (v' : Value), k ≤ N ∧ s7 = .int .i64 k ∧ SepC w0 wr (ownT (numE .i64) 3 (.slice A0 N c0) P :: blkT dd 99 (gdC gq mp q t (v')) :: ownT (numE .i64) 3 (v') ((K k).l) :: rstT q rp rb n a m ((K k).s) :: rtlbT t most ((K k).T) :: rmapT mp L :: blkT gq 147 (rguC mp rp) :: l)) (fun s7 _ => N - (intOf s7).toNat)
 case atStart => exact ⟨0, v, Nat.zero_le _, rfl, by rw [hK0.out, hP.out]; exact H4⟩
 obtain ⟨k, v', hk, rfl, H⟩ := hrel
 clear H4
 have hcp := H.own.cap
 have hN9 : N ≤ 9223372036854775807 := by omega
 clear hcp
 by_cases hlt : k < N
 ·have hltz : (k : Int) < (N : Int) := by omega
  obtain ⟨b_, off, x, rfl, _, hx, hat⟩ := SlN.get H.own.slg hlt
  have hst := hKs.out k x hx
  replace hst := Lib.hid hst
  have hz := (SepC.mv6 H).rgLook (hKi k) x
  clear hx
  generalize looseB (K k) x = cb at *
  go_wp2_with fail
  refine hz.mono ?_; rintro e w5 ⟨rfl, v2, H5⟩
  clear hz hat
  rw [← hst.out] at H5
  replace H5 := SepC.mb6 H5
  go_wp2_with fail
  go_roundw
  case rel => exact ⟨k + 1, v2, by omega, by go_num, H5⟩
  case measure => simp [intOf]; omega
 have ek : k = N := by omega
 subst ek
 have hltz : ¬ (k : Int) < (k : Int) := by omega
 rw [hKe.out] at H
 go_wp2_with fail
 go_end0
 exact ⟨rfl, v', H.tail⟩
end
end Go.Proofs.YtgjfidjhbkaobaaGreat
