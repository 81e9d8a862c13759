/-
 GdE, GdF, GdR in one text.
-/
import Derived.Test.YtmbgepafpcbakaaGreatDoorGD1K
import Derived.Test.YtmbgepafpcbakaaGreatDoorLateK
import Derived.Deep.CutRange
namespace Go.Proofs.YtmbgepafpcbakaaGreatDoor
open Go.RowKit Go.Maps Go.Shelf
section
variable {w0 w w' : World} {dd gq mp q hp hb t n a m most : Nat} {L : List Int} {v : Value} {s : Sr} {T : List Ht} {ll : List Int} {l : List Th} {d : Gd}
theorem prune_run (h : SrOk n a m s) (hw : WdW s.W) (g : Int) (P : List Int) : ∃ K : Nat → Sr, K 0 = s ∧ K P.length = P.foldl (pruneS n L g) s ∧ (∀ k x, P[k]? = some x → K (k + 1) = pruneS n L g (K k) x) ∧ (∀ k, WdW (K k).W) ∧ ∀ k f j, (slotP (K k).L f j).isSome = (slotP s.L f j).isSome := by
 have h1 := fun k : Nat => WdW.prunes (n := n) (L := L) g (P.take k) hw
 have h2 := fun (k : Nat) (f j : Int) => prunes_some (n := n) (L := L) g f j (P.take k) h
 have h3 : ∀ k x, P[k]? = some x → (P.take (k + 1)).foldl (pruneS n L g) s = pruneS n L g ((P.take k).foldl (pruneS n L g) s) x := fun k x hx => by
  have hk := (List.getElem?_eq_some_iff.1 hx).1
  rw [List.take_succ_eq_append_getElem hk, List.foldl_append, (List.getElem?_eq_some_iff.1 hx).2, List.foldl_cons, List.foldl_nil]
 exact ⟨fun k => (P.take k).foldl (pruneS n L g) s, by simp only [List.take_zero, List.foldl_nil], by simp only [List.take_length], h3, h1, h2⟩
theorem SepC.mv6 {P0 P1 P2 P3 P4 P5 P6 : Th} (H : SepC w0 w (P0 :: P1 :: P2 :: P3 :: P4 :: P5 :: P6 :: l)) : SepC w0 w (P1 :: P2 :: P3 :: P4 :: P5 :: P6 :: P0 :: l) :=
 (((((H.pick 6 rfl).pick 6 rfl).pick 6 rfl).pick 6 rfl).pick 6 rfl).pick 6 rfl
theorem SepC.mb6 {P0 P1 P2 P3 P4 P5 P6 : Th} (H : SepC w0 w (P1 :: P2 :: P3 :: P4 :: P5 :: P6 :: P0 :: l)) : SepC w0 w (P0 :: P1 :: P2 :: P3 :: P4 :: P5 :: P6 :: l) := H.pick 6 rfl
set_option maxRecDepth 100000 in
set_option maxHeartbeats 4000000 in
theorem SepC.gPrune {g p : Int} (H : SepC w0 w (blkT dd 144 (gdC gq mp q t (v)) :: ownT (numE .i64) 3 (v) (ll) :: stT q hp hb n a m (s) :: tlbT t most (T) :: mapT mp L :: blkT gq 169 (guC mp hp) :: l)) (hi : InH n L) (hwd : WdW s.W) (hpr : i64B p) (hsm : ∀ i : Nat, i < 8 → (slotP s.L p (i : Int)).isSome = true) :
  Calls Tryz.prog 117 #[.pointer (some ⟨dd, 0, none⟩), .int .i64 p, .int .i64 g] w fun e w' => e = .returned (.tuple #[]) ∧ SepC w0 w' (blkT dd 144 (gdC gq mp q t (v)) :: ownT (numE .i64) 3 (v) (ll) :: stT q hp hb n a m (pruneS n L g s p) :: tlbT t most (T) :: mapT mp L :: blkT gq 169 (guC mp hp) :: l) := by
 have hok := H.at2.sok
 have H1 : SepC w0 (((w.alloc (.cells #[.pointer (some ⟨dd, 0, none⟩)] 49)).alloc (.cells #[.int .i64 p] 3)).alloc (.cells #[.int .i64 g] 3)) (blkT w.heap.size 49 #[.pointer (some ⟨dd, 0, none⟩)] :: blkT (w.heap.size + 1 + 1) 3 #[.int .i64 g] :: blkT (w.heap.size + 1) 3 #[.int .i64 p] :: blkT dd 144 (gdC gq mp q t (v)) :: ownT (numE .i64) 3 (v) (ll) :: stT q hp hb n a m (pruneK n L g s p 0) :: tlbT t most (T) :: mapT mp L :: blkT gq 169 (guC mp hp) :: l) :=
  (((H.alloc #[.pointer (some ⟨dd, 0, none⟩)] 49).allocN (g := w.heap.size + 1) (by simp) #[.int .i64 p] 3).allocN (g := w.heap.size + 1 + 1) (by simp) #[.int .i64 g] 3).pick 2 rfl
 have hE := fun (bd bg bp : Nat) (z : World) (H0 : SepC w0 z (blkT bd 49 #[.pointer (some ⟨dd, 0, none⟩)] :: blkT bg 3 #[.int .i64 g] :: blkT bp 3 #[.int .i64 p] :: blkT dd 144 (gdC gq mp q t (v)) :: ownT (numE .i64) 3 (v) (ll) :: stT q hp hb n a m (pruneK n L g s p 0) :: tlbT t most (T) :: mapT mp L :: blkT gq 169 (guC mp hp) :: l)) => each3_any 185 (enters_of Tryz.func185 (by kernel_rfl) rfl) dd q bd bg bp p (fun i => slV (pruneK n L g s p i).L (p, (i : Int))) (fun i z => SepC w0 z (blkT bd 49 #[.pointer (some ⟨dd, 0, none⟩)] :: blkT bg 3 #[.int .i64 g] :: blkT bp 3 #[.int .i64 p] :: blkT dd 144 (gdC gq mp q t (v)) :: ownT (numE .i64) 3 (v) (ll) :: stT q hp hb n a m (pruneK n L g s p i) :: tlbT t most (T) :: mapT mp L :: blkT gq 169 (guC mp hp) :: l))
  (fun i z hi8 h => by
   have h1 := (h.pick 5 rfl).sSlot p (i : Int) hpr
   rw [pruneK_some hok g p i (by omega), hsm i hi8] at h1
   exact h1)
  (fun i z z' h y => h.new y) (fun i z h => (h.pick 3 rfl).blk.cell 2)
  (fun i z hi8 h => by
   have h1 := h.gPrune1 (i := i) hi (WdW.psteps g _ hwd) hpr
   rw [show pstepS n L g (pruneK n L g s p i) (p, (i : Int)) = pruneK n L g s p (i + 1) from (pruneK_succ g p i).symm] at h1
   exact h1) z H0
 clear hi hwd hsm hok H
 go_enter Tryz.func117, Tryz.ntmps117
 go_wp2_with fail
 refine (hE _ _ _ _ H1).mono ?_; rintro e w2 ⟨rfl, H2⟩
 go_wp2_with fail
 go_end0
 exact ⟨rfl, H2.tail.tail.tail⟩
set_option maxRecDepth 100000 in
set_option maxHeartbeats 4000000 in
theorem SepC.gLook (H : SepC w0 w (blkT dd 144 (gdC gq mp q t (v)) :: ownT (numE .i64) 3 (v) ((d).l) :: stT q hp hb n a m ((d).s) :: tlbT t most ((d).T) :: mapT mp L :: blkT gq 169 (guC mp hp) :: l)) (G : GdIn n a m L d) (g : Int) :
  Calls Tryz.prog 67 #[.pointer (some ⟨dd, 0, none⟩), .int .i64 g] w fun e w' => e = .returned (.bool (looseB d g)) ∧ ∃ v', SepC w0 w' (blkT dd 144 (gdC gq mp q t (v')) :: ownT (numE .i64) 3 (v') ((lookG n L d g).l) :: stT q hp hb n a m ((lookG n L d g).s) :: tlbT t most ((lookG n L d g).T) :: mapT mp L :: blkT gq 169 (guC mp hp) :: l) := by
 have hLo := H.gLoose g
 change Calls _ _ _ _ fun e w' => e = .returned (.bool (looseB d g)) ∧ w' = w at hLo
 cases hl : looseB d g
 ·rw [hl] at hLo
  have e : lookG n L d g = d := by unfold lookG; rw [hl]; rfl
  rw [e]
  clear e hl
  go_enter Tryz.func67, Tryz.ntmps67
  go_wp2_with fail
  refine hLo.mono ?_; rintro e w1 ⟨rfl, rfl⟩
  go_wp2_with fail
  go_ret
  exact ⟨rfl, v, H⟩
 rw [hl] at hLo
 have hT := H.gTighten g G.rg
 have hLI := look_is G.ok hl
 have G1 := (G.tight g).forbid g
 have hok1 := G1.ok.sr
 have hof : ofP d.s.L g = ofP (forbidG L (tightG d g) g).s.L g := by unfold forbidG tightG; simp only [updS_L, of_upd]
 rw [hof] at hLI
 have hFo := fun {z : World} {v' : Value} (H' : SepC w0 z (blkT dd 144 (gdC gq mp q t (v')) :: ownT (numE .i64) 3 (v') ((tightG d g).l) :: stT q hp hb n a m (d.s) :: tlbT t most (d.T) :: mapT mp L :: blkT gq 169 (guC mp hp) :: l)) => H'.gForbid G.ok.map G.ok.pos g
 have e1 : (⟨d.s, d.T, (tightG d g).l⟩ : Gd) = tightG d g := rfl
 rw [e1] at hFo
 change Calls _ _ _ _ fun e w' => e = .returned (.tuple #[]) ∧ ∃ v', SepC w0 w' (blkT dd 144 (gdC gq mp q t (v')) :: ownT (numE .i64) 3 (v') ((tightG d g).l) :: stT q hp hb n a m (d.s) :: tlbT t most (d.T) :: mapT mp L :: blkT gq 169 (guC mp hp) :: l) at hT
 rw [hLI]
 clear hLI e1 hof
 generalize (tightG d g).l = lt at *
 generalize forbidG L (tightG d g) g = D at *
 obtain ⟨K, hK0, hKe, hKs, hKw, hKm⟩ := prune_run (L := L) hok1 G1.wd g (ofP D.s.L g)
 have hPs : ∀ p ∈ ofP D.s.L g, i64B p ∧ ∀ i : Nat, i < 8 → (slotP D.s.L p (i : Int)).isSome = true := fun p hp => by
  obtain ⟨q_, hq, rfl, _⟩ := of_mem.1 hp
  have h1 := hok1.inL hq; have h2 := hok1.le; have h3 := hok1.n256
  exact ⟨by unfold i64B; omega, fun i hi8 => by obtain ⟨x, _, hx⟩ := hok1.slot hq hi8; rw [hx]; rfl⟩
 have hOf := fun {z : World} {l' : List Th} (H' : SepC w0 z (stT q hp hb n a m D.s :: l')) => H'.sOf g
 generalize (ofP D.s.L g).foldl (pruneS n L g) D.s = E at *
 obtain ⟨P, hP⟩ : ∃ P, ofP D.s.L g = P := ⟨_, rfl⟩
 rw [hP] at hOf hKe hKs hPs
 obtain ⟨N, hN⟩ : ∃ N, P.length = N := ⟨_, rfl⟩
 rw [hN] at hOf hKe
 clear hP hok1 G1
 have hPr := fun k x (hx : P[k]? = some x) {z : World} {v' : Value} {T' : List Ht} {l' : List Th} (H' : SepC w0 z (blkT dd 144 (gdC gq mp q t (v')) :: ownT (numE .i64) 3 (v') (lt) :: stT q hp hb n a m (K k) :: tlbT t most (T') :: mapT mp L :: blkT gq 169 (guC mp hp) :: l')) => H'.gPrune (g := g) (p := x) G.ok.map (hKw k) (hPs x (List.mem_of_getElem? hx)).1 (fun i hi8 => (hKm k x i).trans ((hPs x (List.mem_of_getElem? hx)).2 i hi8))
 clear hKw hKm hPs G hl
 generalize hT1 : D.T = T1 at *
 generalize hS1 : D.s = S1 at *
 clear hT1 hS1 D
 replace hK0 := Lib.hid hK0; replace hKe := Lib.hid hKe; replace hKs := Lib.hid hKs; replace hN := Lib.hid hN; replace hPr := Lib.hid hPr
 go_enter Tryz.func67, Tryz.ntmps67
 go_wp2_with fail
 refine hLo.mono ?_; rintro e w1 ⟨rfl, rfl⟩
 clear hLo
 go_wp2_with fail
 refine hT.mono ?_; rintro e w2 ⟨rfl, v', H2⟩
 clear hT H
 go_wp2_with fail
 refine (hFo H2).mono ?_; rintro e w3 ⟨rfl, H3⟩
 clear hFo H2
 have c2 := H3.blk.cell 2
 unfold gdC at c2
 simp only [qA, qZ, qS] at c2
 go_wp2_with fail
 refine (hOf H3.at2).mono ?_; rintro e w4 ⟨A0, c0, rfl, H4⟩
 clear hOf H3 c2
 replace H4 : SepC w0 w4 (ownT (numE .i64) 3 (.slice A0 N c0) P :: blkT dd 144 (gdC gq mp q t (v')) :: ownT (numE .i64) 3 (v') (lt) :: stT q hp hb n a m (S1) :: tlbT t most (T1) :: mapT mp L :: blkT gq 169 (guC mp hp) :: l) := ((H4.pick 3 rfl).pick 3 rfl).pick 2 rfl
 go_wp2_with fail
 go_loopw [24] (fun s24 wr => ∃ k : Nat, k ≤ N ∧ s24 = .int .i64 k ∧ SepC w0 wr (ownT (numE .i64) 3 (.slice A0 N c0) P :: blkT dd 144 (gdC gq mp q t (v')) :: ownT (numE .i64) 3 (v') (lt) :: stT q hp hb n a m (K k) :: tlbT t most (T1) :: mapT mp L :: blkT gq 169 (guC mp hp) :: l)) (fun s24 _ => N - (intOf s24).toNat)
 case atStart => exact ⟨0, Nat.zero_le _, rfl, by rw [hK0.out]; exact H4⟩
 obtain ⟨k, hk, rfl, H⟩ := hrel
 clear H4
 have hcp := H.own.cap
 have hN9 : N ≤ 9223372036854775807 := by omega
 clear hcp
 by_cases hlt : k < N
 ·have hltz : (k : Int) < (N : Int) := by omega
  obtain ⟨b_, off, x, rfl, _, hx, hat⟩ := SlN.get H.own.slg hlt
  have hst := hKs.out k x hx
  have hst := hKs.out k x hx
  replace hst := Lib.hid hst
  have hpr := hPr.out k x hx (l' := ownT (numE .i64) 3 (.slice (some ⟨b_, off, none⟩) N c0) P :: l) (by have h1 := H.pick 6 rfl; exact SepC.mv6 H)
  clear hx
  go_wp2_with fail
  refine hpr.mono ?_; rintro e w5 ⟨rfl, H5⟩
  clear hpr hat
  rw [← hst.out] at H5
  replace H5 := SepC.mb6 H5
  go_wp2_with fail
  go_roundw
  case rel => exact ⟨k + 1, by omega, by go_num, H5⟩
  case measure => simp [intOf]; omega
 have ek : k = N := by omega
 subst ek
 have hltz : ¬ (k : Int) < (k : Int) := by omega
 rw [hKe.out] at H
 replace H := H.tail
 have c3 := H.blk.cell 3
 unfold gdC at c3
 simp only [qA, qZ, qS] at c3
 have hA := H.at3.tAll
 go_wp2_with fail
 refine hA.mono ?_; rintro e w6 ⟨rfl, H6⟩
 clear hA c3
 go_wp2_with fail
 go_ret
 exact ⟨rfl, v', H6.bk3⟩
set_option maxHeartbeats 1000000 in
theorem SepC.gZap (H : SepC w0 w (blkT dd 144 (gdC gq mp q t (v)) :: ownT (numE .i64) 3 (v) ((d).l) :: stT q hp hb n a m ((d).s) :: tlbT t most ((d).T) :: mapT mp L :: blkT gq 169 (guC mp hp) :: l)) (p i : Int) (hp' : i64B p) :
  Calls Tryz.prog 115 #[.pointer (some ⟨dd, 0, none⟩), .int .i64 p, .int .i64 i] w fun e w' => e = .returned (.bool (clearB d.s p i)) ∧ SepC w0 w' (blkT dd 144 (gdC gq mp q t (v)) :: ownT (numE .i64) 3 (v) ((zapG n d p i).l) :: stT q hp hb n a m ((zapG n d p i).s) :: tlbT t most ((zapG n d p i).T) :: mapT mp L :: blkT gq 169 (guC mp hp) :: l) := by
 have hC := H.at2.sClear p i hp'
 have hz : zapG n d p i = if clearB d.s p i then ⟨clearS n d.s p i, [], d.l⟩ else d := rfl
 have hz0 : clearB d.s p i = false → clearS n d.s p i = d.s := fun h => by unfold clearS; rw [h]; rfl
 rw [hz]
 clear hz
 have c2 := H.blk.cell 2
 unfold gdC at c2
 simp only [qA, qZ, qS] at c2
 cases hb_ : clearB d.s p i
 ·rw [hb_] at hC
  rw [hz0 hb_] at hC
  clear hz0 hb_
  go_enter Tryz.func115, Tryz.ntmps115
  go_wp2_with fail
  refine hC.mono ?_; rintro e w1 ⟨rfl, H1⟩
  clear hC
  go_wp2_with fail
  go_ret
  exact ⟨rfl, H1.bk2⟩
 rw [hb_] at hC
 clear hz0 hb_
 simp only [if_true]
 generalize clearS n d.s p i = s1 at *
 go_enter Tryz.func115, Tryz.ntmps115
 go_wp2_with fail
 refine hC.mono ?_; rintro e w1 ⟨rfl, H1⟩
 clear hC H c2
 replace H1 := H1.bk2
 have c3 := H1.blk.cell 3
 unfold gdC at c3
 simp only [qA, qZ, qS] at c3
 have hA := H1.at3.tAll
 go_wp2_with fail
 refine hA.mono ?_; rintro e w2 ⟨rfl, H2⟩
 clear hA c3 H1
 go_wp2_with fail
 go_ret
 exact ⟨rfl, H2.bk3⟩
set_option maxRecDepth 100000 in
set_option maxHeartbeats 4000000 in
theorem SepC.gWord (H : SepC w0 w (blkT dd 144 (gdC gq mp q t (v)) :: ownT (numE .i64) 3 (v) ((d).l) :: stT q hp hb n a m ((d).s) :: tlbT t most ((d).T) :: mapT mp L :: blkT gq 169 (guC mp hp) :: l)) (hok : SrOk n a m d.s) (g i : Int) :
  Calls Tryz.prog 66 #[.pointer (some ⟨dd, 0, none⟩), .int .i64 g, .int .i64 i] w fun e w' => e = .returned (.tuple #[]) ∧ SepC w0 w' (blkT dd 144 (gdC gq mp q t (v)) :: ownT (numE .i64) 3 (v) ((wordG n d g i).l) :: stT q hp hb n a m ((wordG n d g i).s) :: tlbT t most ((wordG n d g i).T) :: mapT mp L :: blkT gq 169 (guC mp hp) :: l) := by
 obtain ⟨K, hK0, hKe, hKs⟩ : ∃ K : Nat → Gd, K 0 = d ∧ K (ofP d.s.L g).length = wordG n d g i ∧ (∀ k x, (ofP d.s.L g)[k]? = some x → K (k + 1) = zapG n (K k) x i) := by
  refine ⟨fun k => ((ofP d.s.L g).take k).foldl (fun d p => zapG n d p i) d, rfl, by simp only [List.take_length]; rfl, fun k x hx => ?_⟩
  have hk := (List.getElem?_eq_some_iff.1 hx).1
  simp only [List.take_succ_eq_append_getElem hk, List.foldl_append, (List.getElem?_eq_some_iff.1 hx).2]; rfl
 have hPs : ∀ p ∈ ofP d.s.L g, i64B p := fun p hp => by
  obtain ⟨q_, hq, rfl, _⟩ := of_mem.1 hp
  have h1 := hok.inL hq; have h2 := hok.le; have h3 := hok.n256
  unfold i64B; omega
 have hOf := H.at2.sOf g
 generalize wordG n d g i = E at *
 obtain ⟨P, hP⟩ : ∃ P, ofP d.s.L g = P := ⟨_, rfl⟩
 rw [hP] at hOf hKe hKs hPs
 obtain ⟨N, hN⟩ : ∃ N, P.length = N := ⟨_, rfl⟩
 rw [hN] at hOf hKe
 clear hP hok
 replace hK0 := Lib.hid hK0; replace hKe := Lib.hid hKe; replace hKs := Lib.hid hKs; replace hN := Lib.hid hN
 have c2 := H.blk.cell 2
 unfold gdC at c2
 simp only [qA, qZ, qS] at c2
 go_enter Tryz.func66, Tryz.ntmps66
 go_wp2_with fail
 refine hOf.mono ?_; rintro e w4 ⟨A0, c0, rfl, H4⟩
 clear hOf H c2
 replace H4 : SepC w0 w4 (ownT (numE .i64) 3 (.slice A0 N c0) P :: blkT dd 144 (gdC gq mp q t (v)) :: ownT (numE .i64) 3 (v) ((d).l) :: stT q hp hb n a m ((d).s) :: tlbT t most ((d).T) :: mapT mp L :: blkT gq 169 (guC mp hp) :: l) := ((H4.pick 3 rfl).pick 3 rfl).pick 2 rfl
 go_wp2_with fail
 go_loopw [15] (fun s15 wr => ∃ k : Nat, k ≤ N ∧ s15 = .int .i64 k ∧ SepC w0 wr (ownT (numE .i64) 3 (.slice A0 N c0) P :: blkT dd 144 (gdC gq mp q t (v)) :: ownT (numE .i64) 3 (v) ((K k).l) :: stT q hp hb n a m ((K k).s) :: tlbT t most ((K k).T) :: mapT mp L :: blkT gq 169 (guC mp hp) :: l)) (fun s15 _ => N - (intOf s15).toNat)
 case atStart => exact ⟨0, Nat.zero_le _, rfl, by rw [hK0.out]; exact H4⟩
 obtain ⟨k, hk, rfl, H⟩ := hrel
 clear H4
 have hcp := H.own.cap
 have hN9 : N ≤ 9223372036854775807 := by omega
 clear hcp
 by_cases hlt : k < N
 ·have hltz : (k : Int) < (N : Int) := by omega
  obtain ⟨b_, off, x, rfl, _, hx, hat⟩ := SlN.get H.own.slg hlt
  have hst := hKs.out k x hx
  replace hst := Lib.hid hst
  have hz := (SepC.mv6 H).gZap x i (hPs x (List.mem_of_getElem? hx))
  clear hx
  generalize clearB (K k).s x i = cb at *
  go_wp2_with fail
  refine hz.mono ?_; rintro e w5 ⟨rfl, H5⟩
  clear hz hat
  rw [← hst.out] at H5
  replace H5 := SepC.mb6 H5
  go_wp2_with fail
  go_roundw
  case rel => exact ⟨k + 1, by omega, by go_num, H5⟩
  case measure => simp [intOf]; omega
 have ek : k = N := by omega
 subst ek
 have hltz : ¬ (k : Int) < (k : Int) := by omega
 rw [hKe.out] at H
 go_wp2_with fail
 go_end0
 exact ⟨rfl, H.tail⟩
set_option maxRecDepth 100000 in
set_option maxHeartbeats 4000000 in
theorem SepC.gAll (H : SepC w0 w (blkT dd 144 (gdC gq mp q t (v)) :: ownT (numE .i64) 3 (v) ((d).l) :: stT q hp hb n a m ((d).s) :: tlbT t most ((d).T) :: mapT mp L :: blkT gq 169 (guC mp hp) :: l)) (G : GdIn n a m L d) :
  Calls Tryz.prog 64 #[.pointer (some ⟨dd, 0, none⟩)] w fun e w' => e = .returned (.tuple #[]) ∧ ∃ v', SepC w0 w' (blkT dd 144 (gdC gq mp q t (v')) :: ownT (numE .i64) 3 (v') ((looksG n L d).l) :: stT q hp hb n a m ((looksG n L d).s) :: tlbT t most ((looksG n L d).T) :: mapT mp L :: blkT gq 169 (guC mp hp) :: l) := by
 obtain ⟨K, hK0, hKe, hKs, hKi⟩ : ∃ K : Nat → Gd, K 0 = d ∧ K d.l.length = looksG n L d ∧ (∀ k x, d.l[k]? = some x → K (k + 1) = lookG n L (K k) x) ∧ ∀ k, GdIn n a m L (K k) := by
  refine ⟨fun k => (d.l.take k).foldl (lookG n L) d, rfl, by simp only [List.take_length]; rfl, fun k x hx => ?_, fun k => GdIn.looks _ G⟩
  have hk := (List.getElem?_eq_some_iff.1 hx).1
  simp only [List.take_succ_eq_append_getElem hk, List.foldl_append, (List.getElem?_eq_some_iff.1 hx).2]; rfl
 have hLi := H.gList G.rg (by have := G.len; omega)
 generalize looksG n L d = E at *
 obtain ⟨P, hP⟩ : ∃ P, d.l = P := ⟨_, rfl⟩
 have hP1 : SepC w0 w (blkT dd 144 (gdC gq mp q t (v)) :: ownT (numE .i64) 3 (v) ((d).l) :: stT q hp hb n a m ((d).s) :: tlbT t most ((d).T) :: mapT mp L :: blkT gq 169 (guC mp hp) :: l) := H
 rw [hP] at hLi hKe hKs
 obtain ⟨N, hN⟩ : ∃ N, P.length = N := ⟨_, rfl⟩
 rw [hN] at hLi hKe
 replace hP := Lib.hid hP
 clear hP1 G
 replace hK0 := Lib.hid hK0; replace hKe := Lib.hid hKe; replace hKs := Lib.hid hKs; replace hN := Lib.hid hN
 go_enter Tryz.func64, Tryz.ntmps64
 go_wp2_with fail
 refine hLi.mono ?_; rintro e w4 ⟨A0, c0, rfl, H4⟩
 clear hLi H
 go_wp2_with fail
 go_loopw [7] (fun s7 wr => ∃ (k : Nat) (v' : Value), k ≤ N ∧ s7 = .int .i64 k ∧ SepC w0 wr (ownT (numE .i64) 3 (.slice A0 N c0) P :: blkT dd 144 (gdC gq mp q t (v')) :: ownT (numE .i64) 3 (v') ((K k).l) :: stT q hp hb n a m ((K k).s) :: tlbT t most ((K k).T) :: mapT mp L :: blkT gq 169 (guC mp hp) :: l)) (fun s7 _ => N - (intOf s7).toNat)
 case atStart => exact ⟨0, v, Nat.zero_le _, rfl, by rw [hK0.out, hP.out]; exact H4⟩
 obtain ⟨k, v', hk, rfl, H⟩ := hrel
 clear H4
 have hcp := H.own.cap
 have hN9 : N ≤ 9223372036854775807 := by omega
 clear hcp
 by_cases hlt : k < N
 ·have hltz : (k : Int) < (N : Int) := by omega
  obtain ⟨b_, off, x, rfl, _, hx, hat⟩ := SlN.get H.own.slg hlt
  have hst := hKs.out k x hx
  replace hst := Lib.hid hst
  have hz := (SepC.mv6 H).gLook (hKi k) x
  clear hx
  generalize looseB (K k) x = cb at *
  go_wp2_with fail
  refine hz.mono ?_; rintro e w5 ⟨rfl, v2, H5⟩
  clear hz hat
  rw [← hst.out] at H5
  replace H5 := SepC.mb6 H5
  go_wp2_with fail
  go_roundw
  case rel => exact ⟨k + 1, v2, by omega, by go_num, H5⟩
  case measure => simp [intOf]; omega
 have ek : k = N := by omega
 subst ek
 have hltz : ¬ (k : Int) < (k : Int) := by omega
 rw [hKe.out] at H
 go_wp2_with fail
 go_end0
 exact ⟨rfl, v', H.tail⟩
end
section
variable {w0 w w' : World} {dd gq mp q hp hb t n a m most : Nat} {L : List Int} {v : Value} {s : Sr} {T : List Ht} {ll : List Int} {l : List Th} {d : Gd}
def oneV : List (Int × Int) → Int
 | [q] => q.1
 | _ => 0
theorem oneV_no : ∀ {P : List (Int × Int)}, P.length ≠ 1 → oneV P = 0
 | [], _ => rfl
 | [_], h => absurd rfl h
 | _ :: _ :: _, _ => rfl
def oneB (F : Int → Bool) : List Int → Bool
 | [p] => F p
 | _ => false
theorem oneB_no {F : Int → Bool} : ∀ {P : List Int}, P.length ≠ 1 → oneB F P = false
 | [], _ => rfl
 | [_], h => absurd rfl h
 | _ :: _ :: _, _ => rfl
def abB (P : List Pg) (p : Int) : Bool := decide ((toldP 1 p P).length = 1)
def abV (P : List Pg) (p : Int) : Int := oneV (toldP 1 p P)
def sgB (P : List Pg) (p : Int) : Bool := decide ((keyV P p).lev = 1) && (abB P p && abB P (abV P p))
theorem levP_key (P : List Pg) (p : Int) : levP P p = (keyV P p).lev := by unfold levP keyV; cases pgAt P p <;> rfl
theorem loosen_is (d : Gd) (g : Int) : loosenB d g = (!looseB d g && oneB (sgB d.s.L) (ofP d.s.L g)) := by
 unfold loosenB
 congr 1
 generalize ofP d.s.L g = P
 match P with
 | [] => rfl
 | _ :: _ :: _ => rfl
 | [p] =>
  show (decide (levP d.s.L p = 1) && _) = sgB d.s.L p
  unfold sgB abB abV
  rw [levP_key]
  congr 1
  generalize toldP 1 p d.s.L = Q
  match Q with
  | [] => rfl
  | _ :: _ :: _ => simp
  | [q] => rfl
set_option maxHeartbeats 400000 in
theorem SepC.gNew (H : SepC w0 w l) : Calls Tryz.prog 51 #[.pointer (some ⟨gq, 0, none⟩), .pointer (some ⟨mp, 0, none⟩), .pointer (some ⟨q, 0, none⟩), .pointer (some ⟨t, 0, none⟩)] w fun e w' => ∃ dd, e = .returned (.pointer (some ⟨dd, 0, none⟩)) ∧ SepC w0 w' (blkT dd 144 (gdC gq mp q t (.slice none 0 0)) :: ownT (numE .i64) 3 (.slice none 0 0) [] :: l) := by
 have H1 := (H.ownNil (numE .i64) 3).alloc (gdC gq mp q t (.slice none 0 0)) 144
 unfold gdC at H1
 clear H
 go_enter Tryz.func51, Tryz.ntmps51
 go_wp2_with fail
 go_ret
 exact ⟨_, rfl, H1⟩
set_option maxRecDepth 100000 in
set_option maxHeartbeats 4000000 in
theorem SepC.gProt (H : SepC w0 w (blkT dd 144 (gdC gq mp q t (v)) :: ownT (numE .i64) 3 (v) ((d).l) :: stT q hp hb n a m ((d).s) :: tlbT t most ((d).T) :: mapT mp L :: blkT gq 169 (guC mp hp) :: l)) (g : Int) :
  Calls Tryz.prog 40 #[.pointer (some ⟨dd, 0, none⟩), .int .i64 g] w fun e w' => e = .returned (.bool (protB d g)) ∧ SepC w0 w' (blkT dd 144 (gdC gq mp q t (v)) :: ownT (numE .i64) 3 (v) ((d).l) :: stT q hp hb n a m ((d).s) :: tlbT t most ((d).T) :: mapT mp L :: blkT gq 169 (guC mp hp) :: l) := by
 have hOf := H.at2.sOf g
 have hLo := fun {z : World} {l' : List Th} (H' : SepC w0 z (blkT dd 144 (gdC gq mp q t (v)) :: ownT (numE .i64) 3 (v) ((d).l) :: stT q hp hb n a m ((d).s) :: tlbT t most ((d).T) :: mapT mp L :: blkT gq 169 (guC mp hp) :: l')) => H'.gLoose g
 have hp : protB d g = (decide ((ofP d.s.L g).length > 0) && !d.l.contains g) := by rw [prot_loose]; rfl
 rw [hp]
 generalize ofP d.s.L g = P at *
 generalize d.l.contains g = lo at *
 have c2 := H.blk.cell 2
 unfold gdC at c2
 simp only [qA, qZ, qS] at c2
 clear hp
 generalize hN : P.length = N at *
 replace hN := Lib.hid hN
 by_cases h0 : N > 0
 ·have h0z : (N : Int) > 0 := by omega
  rw [decide_eq_true h0, Bool.true_and]
  replace h0 := Lib.hid h0
  go_enter Tryz.func40, Tryz.ntmps40
  go_wp2_with fail
  refine hOf.mono ?_; rintro e w1 ⟨A0, c0, rfl, H1⟩
  clear hOf
  replace H1 : SepC w0 w1 (ownT (numE .i64) 3 (.slice A0 N c0) P :: blkT dd 144 (gdC gq mp q t (v)) :: ownT (numE .i64) 3 (v) ((d).l) :: stT q hp hb n a m ((d).s) :: tlbT t most ((d).T) :: mapT mp L :: blkT gq 169 (guC mp hp) :: l) := ((H1.pick 3 rfl).pick 3 rfl).pick 2 rfl
  have hL := hLo H1.tail
  clear hLo
  go_wp2_with fail
  refine hL.mono ?_; rintro e w2 ⟨rfl, rfl⟩
  go_wp2_with fail
  go_ret
  exact ⟨rfl, H1.tail⟩
 have h0z : ¬ (N : Int) > 0 := by omega
 rw [decide_eq_false h0, Bool.false_and]
 replace h0 := Lib.hid h0
 go_enter Tryz.func40, Tryz.ntmps40
 go_wp2_with fail
 refine hOf.mono ?_; rintro e w1 ⟨A0, c0, rfl, H1⟩
 clear hOf
 replace H1 : SepC w0 w1 (ownT (numE .i64) 3 (.slice A0 N c0) P :: blkT dd 144 (gdC gq mp q t (v)) :: ownT (numE .i64) 3 (v) ((d).l) :: stT q hp hb n a m ((d).s) :: tlbT t most ((d).T) :: mapT mp L :: blkT gq 169 (guC mp hp) :: l) := ((H1.pick 3 rfl).pick 3 rfl).pick 2 rfl
 go_wp2_with fail
 go_ret
 exact ⟨rfl, H1.tail⟩
set_option maxRecDepth 100000 in
set_option maxHeartbeats 4000000 in
theorem SepC.gAbove (H : SepC w0 w (blkT dd 144 (gdC gq mp q t (v)) :: ownT (numE .i64) 3 (v) (ll) :: stT q hp hb n a m (s) :: tlbT t most (T) :: mapT mp L :: blkT gq 169 (guC mp hp) :: l)) (p : Int) :
  Calls Tryz.prog 176 #[.pointer (some ⟨dd, 0, none⟩), .int .i64 p] w fun e w' => e = .returned (.tuple #[.int .i64 (abV s.L p), .bool (abB s.L p)]) ∧ SepC w0 w' (blkT dd 144 (gdC gq mp q t (v)) :: ownT (numE .i64) 3 (v) (ll) :: stT q hp hb n a m (s) :: tlbT t most (T) :: mapT mp L :: blkT gq 169 (guC mp hp) :: l) := by
 have hP := H.at2.sParents p
 unfold abV abB
 generalize toldP 1 p s.L = P at *
 have c2 := H.blk.cell 2
 unfold gdC at c2
 simp only [qA, qZ, qS] at c2
 by_cases h1 : P.length = 1
 ·obtain ⟨x, rfl⟩ := List.length_eq_one_iff.1 h1
  clear h1
  simp only [List.length_cons, List.length_nil, Nat.zero_add, oneV, decide_true] at hP ⊢
  go_enter Tryz.func176, Tryz.ntmps176
  go_wp2_with fail
  refine hP.mono ?_; rintro e w1 ⟨A0, c0, rfl, H1⟩
  clear hP c2
  replace H1 : SepC w0 w1 (ownT atE 104 (.slice A0 1 c0) [x] :: blkT dd 144 (gdC gq mp q t (v)) :: ownT (numE .i64) 3 (v) (ll) :: stT q hp hb n a m (s) :: tlbT t most (T) :: mapT mp L :: blkT gq 169 (guC mp hp) :: l) := ((H1.pick 3 rfl).pick 3 rfl).pick 2 rfl
  obtain ⟨b_, off, x', rfl, _, hx, hat⟩ := H1.own.slg.get (k := 0) (by omega)
  simp only [qZ, Option.some.injEq] at hx
  subst hx
  obtain ⟨x0, _⟩ := atE_cells hat
  simp only [Nat.zero_mul, Nat.add_zero] at x0
  clear hat
  go_wp2_with fail
  go_ret2
  exact ⟨rfl, H1.tail⟩
 rw [oneV_no h1, decide_eq_false h1]
 have hne : ((P.length : Int) != 1) = true := by simp; omega
 generalize hN : P.length = N at *
 replace hN := Lib.hid hN; replace h1 := Lib.hid h1
 go_enter Tryz.func176, Tryz.ntmps176
 go_wp2_with fail
 refine hP.mono ?_; rintro e w1 ⟨A0, c0, rfl, H1⟩
 clear hP c2
 replace H1 : SepC w0 w1 (ownT atE 104 (.slice A0 N c0) P :: blkT dd 144 (gdC gq mp q t (v)) :: ownT (numE .i64) 3 (v) (ll) :: stT q hp hb n a m (s) :: tlbT t most (T) :: mapT mp L :: blkT gq 169 (guC mp hp) :: l) := ((H1.pick 3 rfl).pick 3 rfl).pick 2 rfl
 go_wp2_with fail
 go_ret2
 exact ⟨rfl, H1.tail⟩
set_option maxRecDepth 100000 in
set_option maxHeartbeats 4000000 in
theorem SepC.gSingle (H : SepC w0 w (blkT dd 144 (gdC gq mp q t (v)) :: ownT (numE .i64) 3 (v) (ll) :: stT q hp hb n a m (s) :: tlbT t most (T) :: mapT mp L :: blkT gq 169 (guC mp hp) :: l)) (p : Int) (hp' : i64B p) :
  Calls Tryz.prog 111 #[.pointer (some ⟨dd, 0, none⟩), .int .i64 p] w fun e w' => e = .returned (.bool (sgB s.L p)) ∧ SepC w0 w' (blkT dd 144 (gdC gq mp q t (v)) :: ownT (numE .i64) 3 (v) (ll) :: stT q hp hb n a m (s) :: tlbT t most (T) :: mapT mp L :: blkT gq 169 (guC mp hp) :: l) := by
 have hK := H.at2.sKey p hp'
 have hA1 := fun {z : World} {l' : List Th} (H' : SepC w0 z (blkT dd 144 (gdC gq mp q t (v)) :: ownT (numE .i64) 3 (v) (ll) :: stT q hp hb n a m (s) :: tlbT t most (T) :: mapT mp L :: blkT gq 169 (guC mp hp) :: l')) => H'.gAbove p
 have hA2 := fun {z : World} {l' : List Th} (H' : SepC w0 z (blkT dd 144 (gdC gq mp q t (v)) :: ownT (numE .i64) 3 (v) (ll) :: stT q hp hb n a m (s) :: tlbT t most (T) :: mapT mp L :: blkT gq 169 (guC mp hp) :: l')) => H'.gAbove (abV s.L p)
 unfold sgB
 generalize abB s.L (abV s.L p) = b2 at *
 generalize abV s.L (abV s.L p) = v2 at *
 generalize abV s.L p = v1 at *
 generalize abB s.L p = b1 at *
 generalize keyV s.L p = k at *
 obtain ⟨kg, kl, kr⟩ := k
 simp only [Ky.cs] at hK ⊢
 generalize (pgAt s.L p).isSome = b0 at *
 have c2 := H.blk.cell 2
 unfold gdC at c2
 simp only [qA, qZ, qS] at c2
 obtain ⟨kb_, hkb⟩ : ∃ b : Bool, (kl == 1) = b := ⟨_, rfl⟩
 have hkd : decide (kl = 1) = kb_ := by rw [← hkb]; exact Bool.eq_iff_iff.2 (by simp)
 rw [hkd]
 clear hkd
 cases kb_ <;> cases b1
 ·go_enter Tryz.func111, Tryz.ntmps111
  go_wp2_with fail
  refine hK.mono ?_; rintro e w1 ⟨rfl, y1⟩
  have H1 := SepC.mv6 ((H.new y1).alloc #[.int .i64 kg, .int .i64 kl, .int .i64 kr] 85)
  clear hK c2 H y1
  go_wp2_with fail
  generalize w1.alloc (.cells #[.int .i64 kg, .int .i64 kl, .int .i64 kr] 85) = w2 at *
  generalize w1.heap.size = kb at *
  refine (hA1 H1).mono ?_; rintro e w3 ⟨rfl, H3⟩
  clear hA1 H1
  go_wp2_with fail
  refine (hA2 H3).mono ?_; rintro e w4 ⟨rfl, H4⟩
  clear hA2 H3
  have x1 := (SepC.mb6 H4).blk.cell 1
  simp only [qA, qZ, qS] at x1
  go_wp2_with fail
  go_ret
  exact ⟨rfl, (SepC.mb6 H4).tail⟩
 ·go_enter Tryz.func111, Tryz.ntmps111
  go_wp2_with fail
  refine hK.mono ?_; rintro e w1 ⟨rfl, y1⟩
  have H1 := SepC.mv6 ((H.new y1).alloc #[.int .i64 kg, .int .i64 kl, .int .i64 kr] 85)
  clear hK c2 H y1
  go_wp2_with fail
  generalize w1.alloc (.cells #[.int .i64 kg, .int .i64 kl, .int .i64 kr] 85) = w2 at *
  generalize w1.heap.size = kb at *
  refine (hA1 H1).mono ?_; rintro e w3 ⟨rfl, H3⟩
  clear hA1 H1
  go_wp2_with fail
  refine (hA2 H3).mono ?_; rintro e w4 ⟨rfl, H4⟩
  clear hA2 H3
  have x1 := (SepC.mb6 H4).blk.cell 1
  simp only [qA, qZ, qS] at x1
  go_wp2_with fail
  go_ret
  exact ⟨rfl, (SepC.mb6 H4).tail⟩
 ·go_enter Tryz.func111, Tryz.ntmps111
  go_wp2_with fail
  refine hK.mono ?_; rintro e w1 ⟨rfl, y1⟩
  have H1 := SepC.mv6 ((H.new y1).alloc #[.int .i64 kg, .int .i64 kl, .int .i64 kr] 85)
  clear hK c2 H y1
  go_wp2_with fail
  generalize w1.alloc (.cells #[.int .i64 kg, .int .i64 kl, .int .i64 kr] 85) = w2 at *
  generalize w1.heap.size = kb at *
  refine (hA1 H1).mono ?_; rintro e w3 ⟨rfl, H3⟩
  clear hA1 H1
  go_wp2_with fail
  refine (hA2 H3).mono ?_; rintro e w4 ⟨rfl, H4⟩
  clear hA2 H3
  have x1 := (SepC.mb6 H4).blk.cell 1
  simp only [qA, qZ, qS] at x1
  go_wp2_with fail
  go_ret
  exact ⟨rfl, (SepC.mb6 H4).tail⟩
 go_enter Tryz.func111, Tryz.ntmps111
 go_wp2_with fail
 refine hK.mono ?_; rintro e w1 ⟨rfl, y1⟩
 have H1 := SepC.mv6 ((H.new y1).alloc #[.int .i64 kg, .int .i64 kl, .int .i64 kr] 85)
 clear hK c2 H y1
 go_wp2_with fail
 generalize w1.alloc (.cells #[.int .i64 kg, .int .i64 kl, .int .i64 kr] 85) = w2 at *
 generalize w1.heap.size = kb at *
 refine (hA1 H1).mono ?_; rintro e w3 ⟨rfl, H3⟩
 clear hA1 H1
 go_wp2_with fail
 refine (hA2 H3).mono ?_; rintro e w4 ⟨rfl, H4⟩
 clear hA2 H3
 have x1 := (SepC.mb6 H4).blk.cell 1
 simp only [qA, qZ, qS] at x1
 go_wp2_with fail
 go_ret
 exact ⟨rfl, (SepC.mb6 H4).tail⟩
set_option maxRecDepth 100000 in
set_option maxHeartbeats 4000000 in
theorem SepC.gLoosen (H : SepC w0 w (blkT dd 144 (gdC gq mp q t (v)) :: ownT (numE .i64) 3 (v) ((d).l) :: stT q hp hb n a m ((d).s) :: tlbT t most ((d).T) :: mapT mp L :: blkT gq 169 (guC mp hp) :: l)) (G : GdIn n a m L d) (g : Int) :
  Calls Tryz.prog 63 #[.pointer (some ⟨dd, 0, none⟩), .int .i64 g] w fun e w' => e = .returned (.bool (loosenB d g)) ∧ ∃ v', SepC w0 w' (blkT dd 144 (gdC gq mp q t (v')) :: ownT (numE .i64) 3 (v') ((loosenG d g).l) :: stT q hp hb n a m ((loosenG d g).s) :: tlbT t most ((loosenG d g).T) :: mapT mp L :: blkT gq 169 (guC mp hp) :: l) := by
 have hOf := H.at2.sOf g
 have hLo := fun {z : World} {l' : List Th} (H' : SepC w0 z (blkT dd 144 (gdC gq mp q t (v)) :: ownT (numE .i64) 3 (v) ((d).l) :: stT q hp hb n a m ((d).s) :: tlbT t most ((d).T) :: mapT mp L :: blkT gq 169 (guC mp hp) :: l')) => H'.gLoose g
 have hlen := G.len
 have hlg : loosenG d g = if loosenB d g then ⟨d.s, d.T, d.l ++ [g]⟩ else d := rfl
 rw [hlg]
 rw [loosen_is]
 clear hlg
 rw [show looseB d g = d.l.contains g from rfl]
 have hPs : ∀ p ∈ ofP d.s.L g, i64B p := fun p hp => by
  have hok := G.ok.sr
  obtain ⟨q_, hq, rfl, _⟩ := of_mem.1 hp
  have h1 := hok.inL hq; have h2 := hok.le; have h3 := hok.n256
  unfold i64B; omega
 have c2 := H.blk.cell 2
 unfold gdC at c2
 simp only [qA, qZ, qS] at c2
 generalize ofP d.s.L g = P at *
 clear G
 obtain ⟨N, hN⟩ : ∃ N, P.length = N := ⟨_, rfl⟩
 rw [hN] at hOf
 generalize d.l.contains g = lo at *
 cases lo
 ·by_cases h1 : N = 1
  ·obtain ⟨p, rfl⟩ := List.length_eq_one_iff.1 (hN.trans h1)
   subst h1
   have hpr := hPs p (by simp)
   have hSi := fun {z : World} {l' : List Th} (H' : SepC w0 z (blkT dd 144 (gdC gq mp q t (v)) :: ownT (numE .i64) 3 (v) ((d).l) :: stT q hp hb n a m ((d).s) :: tlbT t most ((d).T) :: mapT mp L :: blkT gq 169 (guC mp hp) :: l')) => H'.gSingle p hpr
   clear hN hPs
   simp only [Bool.not_false, Bool.true_and, oneB]
   generalize sgB d.s.L p = sb at *
   cases sb
   ·simp only [Bool.false_eq_true, if_false]
    go_enter Tryz.func63, Tryz.ntmps63
    go_wp2_with fail
    refine hOf.mono ?_; rintro e w1 ⟨A0, c0, rfl, H1⟩
    clear hOf c2 H
    replace H1 : SepC w0 w1 (ownT (numE .i64) 3 (.slice A0 1 c0) [p] :: blkT dd 144 (gdC gq mp q t (v)) :: ownT (numE .i64) 3 (v) ((d).l) :: stT q hp hb n a m ((d).s) :: tlbT t most ((d).T) :: mapT mp L :: blkT gq 169 (guC mp hp) :: l) := ((H1.pick 3 rfl).pick 3 rfl).pick 2 rfl
    go_wp2_with fail
    refine (hLo H1.tail).mono ?_; rintro e w2 ⟨rfl, rfl⟩
    clear hLo
    have H2 := SepC.mv6 H1
    obtain ⟨b_, off, x', rfl, _, hx, hat⟩ := SlN.get (H1.own.slg) (i := 0) (by omega)
    simp only [qZ, Option.some.injEq] at hx
    subst hx
    simp only [Nat.add_zero] at hat
    go_wp2_with fail
    refine (hSi (SepC.mv6 H1)).mono ?_; rintro e w3 ⟨rfl, H3⟩
    clear hSi H2 H1 hat
    go_wp2_with fail
    go_ret
    exact ⟨rfl, v, (SepC.mb6 H3).tail⟩
   simp only [if_true]
   go_enter Tryz.func63, Tryz.ntmps63
   go_wp2_with fail
   refine hOf.mono ?_; rintro e w1 ⟨A0, c0, rfl, H1⟩
   clear hOf c2 H
   replace H1 : SepC w0 w1 (ownT (numE .i64) 3 (.slice A0 1 c0) [p] :: blkT dd 144 (gdC gq mp q t (v)) :: ownT (numE .i64) 3 (v) ((d).l) :: stT q hp hb n a m ((d).s) :: tlbT t most ((d).T) :: mapT mp L :: blkT gq 169 (guC mp hp) :: l) := ((H1.pick 3 rfl).pick 3 rfl).pick 2 rfl
   go_wp2_with fail
   refine (hLo H1.tail).mono ?_; rintro e w2 ⟨rfl, rfl⟩
   clear hLo
   have H2 := SepC.mv6 H1
   obtain ⟨b_, off, x', rfl, _, hx, hat⟩ := SlN.get (H1.own.slg) (i := 0) (by omega)
   simp only [qZ, Option.some.injEq] at hx
   subst hx
   simp only [Nat.add_zero] at hat
   go_wp2_with fail
   refine (hSi (SepC.mv6 H1)).mono ?_; rintro e w3 ⟨rfl, H3⟩
   clear hSi H2 H1 hat
   replace H3 := (SepC.mb6 H3).tail
   have c4 := H3.blk.cell 4
   unfold gdC at c4
   simp only [qA, qZ, qS] at c4
   have ho := H3.at1.own
   have H4 := H3.alloc #[.int .i64 g] 3
   have ho4 := ho.new ((Chg.refl [] w3).alloc (.cells #[.int .i64 g] 3))
   have hsrc : Src (w3.alloc (.cells #[.int .i64 g] 3)) (numE .i64).k (some ⟨w3.heap.size, 0, none⟩) 1 1 ((numE .i64).all [g]) := (OwnG.lit (E := numE .i64) (L := [g]) (Blk.new w3 3 #[.int .i64 g]) (by simp)).src
   go_wp2_with (at_builtin; (refine wpList_append_G (E := numE .i64) rfl _ _ 43 rfl 3 (.int .i64 0) 8 Tryz.underlying43 int_info rfl v d.l rfl ho4 (some ⟨w3.heap.size, 0, none⟩) 1 1 [g] rfl hsrc rfl (by omega) ?_); (intro v5 w5 ho5 hc5 hb5); (have H5 := (H4.pick 2 rfl).app ho5 hc5 hb5); (clear ho4 hsrc H4 ho c4 H3); (obtain ⟨A5, c5, rfl, _, _⟩ := ho5.form); (have H6 := H5.pick 2 rfl); (have f4 := H6.blk.frozen 4); (have c4 := H6.blk.cell 4); (unfold gdC at c4); (simp only [qA, qZ, qS] at c4); (have H7 := H6.cellSet 4 (.slice A5 (d.l ++ [g]).length c5)); (clear H6 H5 ho5 hc5 hb5))
   go_ret
   rw [show (d.l ++ [g]).length = d.l.length + 1 by simp] at H7
   exact ⟨rfl, .slice A5 (d.l.length + 1) c5, (H7.pick 2 rfl).tail⟩
  rw [oneB_no (by omega)]
  simp only [Bool.and_false, Bool.false_eq_true, if_false]
  have hne : ((N : Int) != 1) = true := by simp; omega
  replace hN := Lib.hid hN; replace h1 := Lib.hid h1
  go_enter Tryz.func63, Tryz.ntmps63
  go_wp2_with fail
  refine hOf.mono ?_; rintro e w1 ⟨A0, c0, rfl, H1⟩
  clear hOf c2 H
  replace H1 : SepC w0 w1 (ownT (numE .i64) 3 (.slice A0 N c0) P :: blkT dd 144 (gdC gq mp q t (v)) :: ownT (numE .i64) 3 (v) ((d).l) :: stT q hp hb n a m ((d).s) :: tlbT t most ((d).T) :: mapT mp L :: blkT gq 169 (guC mp hp) :: l) := ((H1.pick 3 rfl).pick 3 rfl).pick 2 rfl
  go_wp2_with fail
  refine (hLo H1.tail).mono ?_; rintro e w2 ⟨rfl, rfl⟩
  clear hLo
  go_wp2_with fail
  go_ret
  exact ⟨rfl, v, H1.tail⟩
 simp only [Bool.not_true, Bool.false_and, Bool.false_eq_true, if_false]
 replace hN := Lib.hid hN
 go_enter Tryz.func63, Tryz.ntmps63
 go_wp2_with fail
 refine hOf.mono ?_; rintro e w1 ⟨A0, c0, rfl, H1⟩
 clear hOf c2 H
 replace H1 : SepC w0 w1 (ownT (numE .i64) 3 (.slice A0 N c0) P :: blkT dd 144 (gdC gq mp q t (v)) :: ownT (numE .i64) 3 (v) ((d).l) :: stT q hp hb n a m ((d).s) :: tlbT t most ((d).T) :: mapT mp L :: blkT gq 169 (guC mp hp) :: l) := ((H1.pick 3 rfl).pick 3 rfl).pick 2 rfl
 go_wp2_with fail
 refine (hLo H1.tail).mono ?_; rintro e w2 ⟨rfl, rfl⟩
 clear hLo
 go_wp2_with fail
 go_ret
 exact ⟨rfl, v, H1.tail⟩
end
section
variable {w0 w w' : World} {dd gq mp q hp hb t n a m most : Nat} {L : List Int} {v : Value} {s : Sr} {T : List Ht} {ll : List Int} {l : List Th} {d : Gd}
theorem SepC.rot8f {P0 P1 P2 P3 P4 P5 P6 P7 Q0 Q1 Q2 Q3 Q4 Q5 : Th} (H : SepC w0 w (P0 :: P1 :: P2 :: P3 :: P4 :: P5 :: P6 :: P7 :: Q0 :: Q1 :: Q2 :: Q3 :: Q4 :: Q5 :: l)) : SepC w0 w (Q0 :: Q1 :: Q2 :: Q3 :: Q4 :: Q5 :: P0 :: P1 :: P2 :: P3 :: P4 :: P5 :: P6 :: P7 :: l) := (((((H.pick 13 rfl).pick 13 rfl).pick 13 rfl).pick 13 rfl).pick 13 rfl).pick 13 rfl
theorem SepC.rot8b {P0 P1 P2 P3 P4 P5 P6 P7 Q0 Q1 Q2 Q3 Q4 Q5 : Th} (H : SepC w0 w (Q0 :: Q1 :: Q2 :: Q3 :: Q4 :: Q5 :: P0 :: P1 :: P2 :: P3 :: P4 :: P5 :: P6 :: P7 :: l)) : SepC w0 w (P0 :: P1 :: P2 :: P3 :: P4 :: P5 :: P6 :: P7 :: Q0 :: Q1 :: Q2 :: Q3 :: Q4 :: Q5 :: l) := (((((((H.pick 13 rfl).pick 13 rfl).pick 13 rfl).pick 13 rfl).pick 13 rfl).pick 13 rfl).pick 13 rfl).pick 13 rfl
set_option maxRecDepth 100000 in
set_option maxHeartbeats 8000000 in
theorem SepC.gReachIn0 {bl bd bp bi bf bt : Nat} {p i : Int} {first j : Nat} {A0 : Option Addr} {c0 : Nat} {M : List Int} (H : SepC w0 w (blkT bl 43 #[.slice A0 (M).length c0] :: ownT (numE .i64) 3 (.slice A0 (M).length c0) (M) :: blkT bd 49 #[.pointer (some ⟨dd, 0, none⟩)] :: blkT bp 3 #[.int .i64 p] :: blkT bi 3 #[.int .i64 i] :: blkT bf 3 #[.int .i64 (first : Nat)] :: blkT bt 3 #[.int .i64 1] :: blkT dd 144 (gdC gq mp q t (v)) :: ownT (numE .i64) 3 (v) (ll) :: stT q hp hb n a m (s) :: tlbT t most (T) :: mapT mp L :: blkT gq 169 (guC mp hp) :: l)) (x : Slt)
  (hk : x.kind ≠ 1) :
  Calls Tryz.prog 232 #[.int .i64 (j : Nat), .agg x.cl.toArray, .pointer (some ⟨bl, 0, none⟩), .pointer (some ⟨bd, 0, none⟩), .pointer (some ⟨bp, 0, none⟩), .pointer (some ⟨bi, 0, none⟩), .pointer (some ⟨bf, 0, none⟩), .pointer (some ⟨bt, 0, none⟩)] w fun e w' => e = .returned (.tuple #[]) ∧ ∃ A c, SepC w0 w' (blkT bl 43 #[.slice A (M ++ (if x.kind = 1 then rchL s.L p i 0 x.to_ (first + j * 1) else [])).length c] :: ownT (numE .i64) 3 (.slice A (M ++ (if x.kind = 1 then rchL s.L p i 0 x.to_ (first + j * 1) else [])).length c) (M ++ (if x.kind = 1 then rchL s.L p i 0 x.to_ (first + j * 1) else [])) :: blkT bd 49 #[.pointer (some ⟨dd, 0, none⟩)] :: blkT bp 3 #[.int .i64 p] :: blkT bi 3 #[.int .i64 i] :: blkT bf 3 #[.int .i64 (first : Nat)] :: blkT bt 3 #[.int .i64 1] :: blkT dd 144 (gdC gq mp q t (v)) :: ownT (numE .i64) 3 (v) (ll) :: stT q hp hb n a m (s) :: tlbT t most (T) :: mapT mp L :: blkT gq 169 (guC mp hp) :: l) := by
 obtain ⟨kd, to_, ⟨rw_, ru, rx⟩⟩ := x
 simp only [Slt.cl] at hk ⊢
 have H1 := H.alloc #[.int .i64 kd, .int .i64 to_, .bool rw_, .bool ru, .bool rx] 99
 have hkb : (kd == 1) = false := by simpa using hk
 simp only [if_neg hk, List.append_nil]
 replace hk := Lib.hid hk
 go_enter Tryz.func232, Tryz.ntmps232
 go_wp2_with fail
 go_end0
 exact ⟨rfl, A0, c0, H1.tail⟩
set_option maxRecDepth 100000 in
set_option maxHeartbeats 8000000 in
theorem SepC.gReachIn1 {bl bd bp bi bf bt : Nat} {p i : Int} {first j : Nat} {A0 : Option Addr} {c0 : Nat} {M : List Int} (H : SepC w0 w (blkT bl 43 #[.slice A0 (M).length c0] :: ownT (numE .i64) 3 (.slice A0 (M).length c0) (M) :: blkT bd 49 #[.pointer (some ⟨dd, 0, none⟩)] :: blkT bp 3 #[.int .i64 p] :: blkT bi 3 #[.int .i64 i] :: blkT bf 3 #[.int .i64 (first : Nat)] :: blkT bt 3 #[.int .i64 8] :: blkT dd 144 (gdC gq mp q t (v)) :: ownT (numE .i64) 3 (v) (ll) :: stT q hp hb n a m (s) :: tlbT t most (T) :: mapT mp L :: blkT gq 169 (guC mp hp) :: l)) (x : Slt) (hj : j < 8) (hf : first + 8 * 8 ≤ 512) (hM : M.length ≤ 512)
  (hRec : ∀ (f : Nat), f + 8 ≤ 512 → x.kind = 1 → ∀ (z : World) (l' : List Th), SepC w0 z (blkT dd 144 (gdC gq mp q t (v)) :: ownT (numE .i64) 3 (v) (ll) :: stT q hp hb n a m (s) :: tlbT t most (T) :: mapT mp L :: blkT gq 169 (guC mp hp) :: l') → Calls Tryz.prog 227 #[.pointer (some ⟨dd, 0, none⟩), .int .i64 x.to_, .int .i64 p, .int .i64 i, .int .i64 (f : Nat), .int .i64 8] z fun e w' => ∃ A c, e = .returned (.slice A (rchL s.L p i 1 x.to_ f).length c) ∧ SepC w0 w' (ownT (numE .i64) 3 (.slice A (rchL s.L p i 1 x.to_ f).length c) (rchL s.L p i 1 x.to_ f) :: blkT dd 144 (gdC gq mp q t (v)) :: ownT (numE .i64) 3 (v) (ll) :: stT q hp hb n a m (s) :: tlbT t most (T) :: mapT mp L :: blkT gq 169 (guC mp hp) :: l')) :
  Calls Tryz.prog 232 #[.int .i64 (j : Nat), .agg x.cl.toArray, .pointer (some ⟨bl, 0, none⟩), .pointer (some ⟨bd, 0, none⟩), .pointer (some ⟨bp, 0, none⟩), .pointer (some ⟨bi, 0, none⟩), .pointer (some ⟨bf, 0, none⟩), .pointer (some ⟨bt, 0, none⟩)] w fun e w' => e = .returned (.tuple #[]) ∧ ∃ A c, SepC w0 w' (blkT bl 43 #[.slice A (M ++ (if x.kind = 1 then rchL s.L p i 1 x.to_ (first + j * 8) else [])).length c] :: ownT (numE .i64) 3 (.slice A (M ++ (if x.kind = 1 then rchL s.L p i 1 x.to_ (first + j * 8) else [])).length c) (M ++ (if x.kind = 1 then rchL s.L p i 1 x.to_ (first + j * 8) else [])) :: blkT bd 49 #[.pointer (some ⟨dd, 0, none⟩)] :: blkT bp 3 #[.int .i64 p] :: blkT bi 3 #[.int .i64 i] :: blkT bf 3 #[.int .i64 (first : Nat)] :: blkT bt 3 #[.int .i64 8] :: blkT dd 144 (gdC gq mp q t (v)) :: ownT (numE .i64) 3 (v) (ll) :: stT q hp hb n a m (s) :: tlbT t most (T) :: mapT mp L :: blkT gq 169 (guC mp hp) :: l) := by
 have hlen := rchL_len s.L p i 1 x.to_ (first + j * 8)
 have hRc := hRec (first + j * 8) (by omega)
 clear hRec
 obtain ⟨kd, to_, ⟨rw_, ru, rx⟩⟩ := x
 simp only [Slt.cl] at hRc hlen ⊢
 have H1 := H.alloc #[.int .i64 kd, .int .i64 to_, .bool rw_, .bool ru, .bool rx] 99
 by_cases hk : kd = 1
 ·subst hk
  simp only [if_true]
  have hRd := fun z l' H' => hRc rfl z l' H'
  clear hRc
  obtain ⟨F, hF⟩ : ∃ F : Nat, first + j * 8 = F := ⟨_, rfl⟩
  rw [hF] at hRd hlen ⊢
  have hF5 : F + 8 ≤ 512 := by omega
  have hFz : (first : Int) + (j : Int) * 8 = (F : Int) := by omega
  clear hF
  generalize rchL s.L p i 1 to_ F = R at *
  have m1 : IntKind.i64.wrap ((j : Int) * 8) = (j : Int) * 8 := IntWalk.i64_in _ (by omega)
  have m2 : IntKind.i64.wrap ((first : Int) + (j : Int) * 8) = (F : Int) := by rw [hFz]; exact IntWalk.i64_in _ (by omega)
  replace hFz := Lib.hid hFz
  go_enter Tryz.func232, Tryz.ntmps232
  go_upto_region 2 with fail
  generalize w.alloc (.cells #[.int .i64 1, .int .i64 to_, .bool rw_, .bool ru, .bool rx] 99) = w1 at *
  generalize w.heap.size = bx at *
  clear H
  have HH := H1.new (Chg.refl [] w1).drew
  refine wp_region_noPanic ?_
  refine late_region (S := (fun w' => Blk w' bx 99 #[.int .i64 1, .int .i64 to_, .bool rw_, .bool ru, .bool rx] ∧ Blk w' bl 43 #[.slice A0 (M).length c0] ∧ Blk w' bd 49 #[.pointer (some ⟨dd, 0, none⟩)] ∧ Blk w' bp 3 #[.int .i64 p] ∧ Blk w' bi 3 #[.int .i64 i] ∧ Blk w' bf 3 #[.int .i64 (first : Nat)] ∧ Blk w' bt 3 #[.int .i64 8])) (Z := 14) (by kernel_rfl) ⟨HH.blk, (HH.pick 1 rfl).blk, (HH.pick 3 rfl).blk, (HH.pick 4 rfl).blk, (HH.pick 5 rfl).blk, (HH.pick 6 rfl).blk, (HH.pick 7 rfl).blk⟩ (fun hHeld => ?_)
  (refine lk 0 13 ?_ ?_ ?_; rotate_left; · (intro w hSw; (try dsimp only at hSw); have d_ := hSw.2.1.cell 0; simp only [qA, qZ] at d_; go_simp; (try with_reducible rfl)))
  (try simp only [Act.put, qI, qO, qU])
  (refine lk 1 14 ?_ ?_ ?_; rotate_left; · (intro w hSw; (try dsimp only at hSw); have d_ := hSw.2.2.1.cell 0; simp only [qA, qZ] at d_; go_simp; (try with_reducible rfl)))
  (try simp only [Act.put, qI, qO, qU])
  (refine lk 2 15 ?_ ?_ ?_; rotate_left; · (intro w hSw; (try dsimp only at hSw); go_simp; (try with_reducible rfl)))
  (try simp only [Act.put, qI, qO, qU])
  (refine lk 3 16 ?_ ?_ ?_; rotate_left; · (intro w hSw; (try dsimp only at hSw); have d_ := hSw.1.cell 1; simp only [qA, qZ, qS] at d_; go_simp; (try with_reducible rfl)))
  (try simp only [Act.put, qI, qO, qU])
  (refine lk 4 17 ?_ ?_ ?_; rotate_left; · (intro w hSw; (try dsimp only at hSw); have d_ := hSw.2.2.2.1.cell 0; simp only [qA, qZ] at d_; go_simp; (try with_reducible rfl)))
  (try simp only [Act.put, qI, qO, qU])
  (refine lk 5 18 ?_ ?_ ?_; rotate_left; · (intro w hSw; (try dsimp only at hSw); have d_ := hSw.2.2.2.2.1.cell 0; simp only [qA, qZ] at d_; go_simp; (try with_reducible rfl)))
  (try simp only [Act.put, qI, qO, qU])
  (refine lk 6 19 ?_ ?_ ?_; rotate_left; · (intro w hSw; (try dsimp only at hSw); have d_ := hSw.2.2.2.2.2.1.cell 0; simp only [qA, qZ] at d_; go_simp; (try with_reducible rfl)))
  (try simp only [Act.put, qI, qO, qU])
  (refine lk 7 20 ?_ ?_ ?_; rotate_left; · (intro w hSw; (try dsimp only at hSw); go_simp; (try with_reducible rfl)))
  (try simp only [Act.put, qI, qO, qU])
  (refine lk 8 21 ?_ ?_ ?_; rotate_left; · (intro w hSw; (try dsimp only at hSw); have d_ := hSw.2.2.2.2.2.2.cell 0; simp only [qA, qZ] at d_; go_simp; (try with_reducible rfl)))
  (try simp only [Act.put, qI, qO, qU])
  (refine lk 9 22 ?_ ?_ ?_; rotate_left; · (intro w hSw; (try dsimp only at hSw); go_simp; (try with_reducible rfl)))
  (try simp only [Act.put, qI, qO, qU])
  (refine lk 10 23 ?_ ?_ ?_; rotate_left; · (intro w hSw; (try dsimp only at hSw); go_simp; (try with_reducible rfl)))
  (try simp only [Act.put, qI, qO, qU])
  (refine lk 11 24 ?_ ?_ ?_; rotate_left; · (intro w hSw; (try dsimp only at hSw); have d_ := hSw.2.2.2.2.2.2.cell 0; simp only [qA, qZ] at d_; go_simp; (try with_reducible rfl)))
  (try simp only [Act.put, qI, qO, qU])
  refine lrdy 12 fun K_ hK => ?_
  go_simp
  (go_at_call 227; refine (hRd _ _ (SepC.rot8f HH)).mono ?_; rintro e u1 ⟨A1, c1, rfl, H2⟩)
  have hR := H2.own
  have H3 := SepC.rot8b H2.tail
  refine hK.out _ _ (fun _ => ?_) ?_
  ·(try dsimp only); exact ⟨H3.blk, (H3.pick 1 rfl).blk, (H3.pick 3 rfl).blk, (H3.pick 4 rfl).blk, (H3.pick 5 rfl).blk, (H3.pick 6 rfl).blk, (H3.pick 7 rfl).blk⟩
  clear hK K_
  (try simp only [Act.put, qI, qO, qU])
  refine lrdy 13 fun K_ hK => ?_
  refine step_append_G (E := numE .i64) (some 26) rfl rfl (.tmp 13) (.tmp 25) 43 rfl 3 (.int .i64 0) 8 Tryz.underlying43 int_info rfl (.slice A0 (M).length c0) M rfl (H3.pick 2 rfl).own A1 R.length c1 R rfl hR.src rfl (by omega) (fun v' u' ho5 hc5 hb5 => ?_)
  obtain ⟨A5, c5, rfl, hx1, hx2⟩ := ho5.form
  clear hx1 hx2
  have H4 := ((H3.pick 2 rfl).app ho5 hc5 hb5)
  clear ho5 hc5 hb5 hR H2 H3
  refine hK.out _ _ (fun _ => ?_) ?_
  ·(try dsimp only); exact ⟨(H4.pick 1 rfl).blk, (H4.pick 2 rfl).blk, (H4.pick 3 rfl).blk, (H4.pick 4 rfl).blk, (H4.pick 5 rfl).blk, (H4.pick 6 rfl).blk, (H4.pick 7 rfl).blk⟩
  clear hK K_
  (try simp only [Act.put, qI, qO, qU])
  have H5 := H4.pick 2 rfl
  have f0 := H5.blk.frozen 0
  have e0 := H5.blk.cell 0
  simp only [qA, qZ] at e0
  have H6 := H5.cellSet 0 (.slice A5 (M ++ R).length c5)
  clear H4 H5
  refine lrdy 14 fun K_ hK => ?_
  go_simp
  refine hK.out _ _ (fun e => absurd rfl e) ?_
  clear hK K_
  (try simp only [Act.put, qI, qO, qU])
  refine late_done (by kernel_rfl) ?_ _
  refine NoPanic.normal ?_
  go_wp2_with fail
  go_end0
  have el : (M ++ R).length = M.length + R.length := List.length_append
  rw [el] at H6
  exact ⟨rfl, A5, c5, by rw [el]; exact ((H6.pick 2 rfl).tail)⟩
 have hkb : (kd == 1) = false := by simpa using hk
 simp only [if_neg hk, List.append_nil]
 replace hk := Lib.hid hk
 clear hRc hlen
 go_enter Tryz.func232, Tryz.ntmps232
 go_wp2_with fail
 go_end0
 exact ⟨rfl, A0, c0, H1.tail⟩
set_option maxRecDepth 100000 in
set_option maxHeartbeats 8000000 in
theorem SepC.gReachIn2 {bl bd bp bi bf bt : Nat} {p i : Int} {first j : Nat} {A0 : Option Addr} {c0 : Nat} {M : List Int} (H : SepC w0 w (blkT bl 43 #[.slice A0 (M).length c0] :: ownT (numE .i64) 3 (.slice A0 (M).length c0) (M) :: blkT bd 49 #[.pointer (some ⟨dd, 0, none⟩)] :: blkT bp 3 #[.int .i64 p] :: blkT bi 3 #[.int .i64 i] :: blkT bf 3 #[.int .i64 (first : Nat)] :: blkT bt 3 #[.int .i64 64] :: blkT dd 144 (gdC gq mp q t (v)) :: ownT (numE .i64) 3 (v) (ll) :: stT q hp hb n a m (s) :: tlbT t most (T) :: mapT mp L :: blkT gq 169 (guC mp hp) :: l)) (x : Slt) (hj : j < 8) (hf : first + 8 * 64 ≤ 512) (hM : M.length ≤ 512)
  (hRec : ∀ (f : Nat), f + 64 ≤ 512 → x.kind = 1 → ∀ (z : World) (l' : List Th), SepC w0 z (blkT dd 144 (gdC gq mp q t (v)) :: ownT (numE .i64) 3 (v) (ll) :: stT q hp hb n a m (s) :: tlbT t most (T) :: mapT mp L :: blkT gq 169 (guC mp hp) :: l') → Calls Tryz.prog 227 #[.pointer (some ⟨dd, 0, none⟩), .int .i64 x.to_, .int .i64 p, .int .i64 i, .int .i64 (f : Nat), .int .i64 64] z fun e w' => ∃ A c, e = .returned (.slice A (rchL s.L p i 2 x.to_ f).length c) ∧ SepC w0 w' (ownT (numE .i64) 3 (.slice A (rchL s.L p i 2 x.to_ f).length c) (rchL s.L p i 2 x.to_ f) :: blkT dd 144 (gdC gq mp q t (v)) :: ownT (numE .i64) 3 (v) (ll) :: stT q hp hb n a m (s) :: tlbT t most (T) :: mapT mp L :: blkT gq 169 (guC mp hp) :: l')) :
  Calls Tryz.prog 232 #[.int .i64 (j : Nat), .agg x.cl.toArray, .pointer (some ⟨bl, 0, none⟩), .pointer (some ⟨bd, 0, none⟩), .pointer (some ⟨bp, 0, none⟩), .pointer (some ⟨bi, 0, none⟩), .pointer (some ⟨bf, 0, none⟩), .pointer (some ⟨bt, 0, none⟩)] w fun e w' => e = .returned (.tuple #[]) ∧ ∃ A c, SepC w0 w' (blkT bl 43 #[.slice A (M ++ (if x.kind = 1 then rchL s.L p i 2 x.to_ (first + j * 64) else [])).length c] :: ownT (numE .i64) 3 (.slice A (M ++ (if x.kind = 1 then rchL s.L p i 2 x.to_ (first + j * 64) else [])).length c) (M ++ (if x.kind = 1 then rchL s.L p i 2 x.to_ (first + j * 64) else [])) :: blkT bd 49 #[.pointer (some ⟨dd, 0, none⟩)] :: blkT bp 3 #[.int .i64 p] :: blkT bi 3 #[.int .i64 i] :: blkT bf 3 #[.int .i64 (first : Nat)] :: blkT bt 3 #[.int .i64 64] :: blkT dd 144 (gdC gq mp q t (v)) :: ownT (numE .i64) 3 (v) (ll) :: stT q hp hb n a m (s) :: tlbT t most (T) :: mapT mp L :: blkT gq 169 (guC mp hp) :: l) := by
 have hlen := rchL_len s.L p i 2 x.to_ (first + j * 64)
 have hRc := hRec (first + j * 64) (by omega)
 clear hRec
 obtain ⟨kd, to_, ⟨rw_, ru, rx⟩⟩ := x
 simp only [Slt.cl] at hRc hlen ⊢
 have H1 := H.alloc #[.int .i64 kd, .int .i64 to_, .bool rw_, .bool ru, .bool rx] 99
 by_cases hk : kd = 1
 ·subst hk
  simp only [if_true]
  have hRd := fun z l' H' => hRc rfl z l' H'
  clear hRc
  obtain ⟨F, hF⟩ : ∃ F : Nat, first + j * 64 = F := ⟨_, rfl⟩
  rw [hF] at hRd hlen ⊢
  have hF5 : F + 64 ≤ 512 := by omega
  have hFz : (first : Int) + (j : Int) * 64 = (F : Int) := by omega
  clear hF
  generalize rchL s.L p i 2 to_ F = R at *
  have m1 : IntKind.i64.wrap ((j : Int) * 64) = (j : Int) * 64 := IntWalk.i64_in _ (by omega)
  have m2 : IntKind.i64.wrap ((first : Int) + (j : Int) * 64) = (F : Int) := by rw [hFz]; exact IntWalk.i64_in _ (by omega)
  replace hFz := Lib.hid hFz
  go_enter Tryz.func232, Tryz.ntmps232
  go_upto_region 2 with fail
  generalize w.alloc (.cells #[.int .i64 1, .int .i64 to_, .bool rw_, .bool ru, .bool rx] 99) = w1 at *
  generalize w.heap.size = bx at *
  clear H
  have HH := H1.new (Chg.refl [] w1).drew
  refine wp_region_noPanic ?_
  refine late_region (S := (fun w' => Blk w' bx 99 #[.int .i64 1, .int .i64 to_, .bool rw_, .bool ru, .bool rx] ∧ Blk w' bl 43 #[.slice A0 (M).length c0] ∧ Blk w' bd 49 #[.pointer (some ⟨dd, 0, none⟩)] ∧ Blk w' bp 3 #[.int .i64 p] ∧ Blk w' bi 3 #[.int .i64 i] ∧ Blk w' bf 3 #[.int .i64 (first : Nat)] ∧ Blk w' bt 3 #[.int .i64 64])) (Z := 14) (by kernel_rfl) ⟨HH.blk, (HH.pick 1 rfl).blk, (HH.pick 3 rfl).blk, (HH.pick 4 rfl).blk, (HH.pick 5 rfl).blk, (HH.pick 6 rfl).blk, (HH.pick 7 rfl).blk⟩ (fun hHeld => ?_)
  (refine lk 0 13 ?_ ?_ ?_; rotate_left; · (intro w hSw; (try dsimp only at hSw); have d_ := hSw.2.1.cell 0; simp only [qA, qZ] at d_; go_simp; (try with_reducible rfl)))
  (try simp only [Act.put, qI, qO, qU])
  (refine lk 1 14 ?_ ?_ ?_; rotate_left; · (intro w hSw; (try dsimp only at hSw); have d_ := hSw.2.2.1.cell 0; simp only [qA, qZ] at d_; go_simp; (try with_reducible rfl)))
  (try simp only [Act.put, qI, qO, qU])
  (refine lk 2 15 ?_ ?_ ?_; rotate_left; · (intro w hSw; (try dsimp only at hSw); go_simp; (try with_reducible rfl)))
  (try simp only [Act.put, qI, qO, qU])
  (refine lk 3 16 ?_ ?_ ?_; rotate_left; · (intro w hSw; (try dsimp only at hSw); have d_ := hSw.1.cell 1; simp only [qA, qZ, qS] at d_; go_simp; (try with_reducible rfl)))
  (try simp only [Act.put, qI, qO, qU])
  (refine lk 4 17 ?_ ?_ ?_; rotate_left; · (intro w hSw; (try dsimp only at hSw); have d_ := hSw.2.2.2.1.cell 0; simp only [qA, qZ] at d_; go_simp; (try with_reducible rfl)))
  (try simp only [Act.put, qI, qO, qU])
  (refine lk 5 18 ?_ ?_ ?_; rotate_left; · (intro w hSw; (try dsimp only at hSw); have d_ := hSw.2.2.2.2.1.cell 0; simp only [qA, qZ] at d_; go_simp; (try with_reducible rfl)))
  (try simp only [Act.put, qI, qO, qU])
  (refine lk 6 19 ?_ ?_ ?_; rotate_left; · (intro w hSw; (try dsimp only at hSw); have d_ := hSw.2.2.2.2.2.1.cell 0; simp only [qA, qZ] at d_; go_simp; (try with_reducible rfl)))
  (try simp only [Act.put, qI, qO, qU])
  (refine lk 7 20 ?_ ?_ ?_; rotate_left; · (intro w hSw; (try dsimp only at hSw); go_simp; (try with_reducible rfl)))
  (try simp only [Act.put, qI, qO, qU])
  (refine lk 8 21 ?_ ?_ ?_; rotate_left; · (intro w hSw; (try dsimp only at hSw); have d_ := hSw.2.2.2.2.2.2.cell 0; simp only [qA, qZ] at d_; go_simp; (try with_reducible rfl)))
  (try simp only [Act.put, qI, qO, qU])
  (refine lk 9 22 ?_ ?_ ?_; rotate_left; · (intro w hSw; (try dsimp only at hSw); go_simp; (try with_reducible rfl)))
  (try simp only [Act.put, qI, qO, qU])
  (refine lk 10 23 ?_ ?_ ?_; rotate_left; · (intro w hSw; (try dsimp only at hSw); go_simp; (try with_reducible rfl)))
  (try simp only [Act.put, qI, qO, qU])
  (refine lk 11 24 ?_ ?_ ?_; rotate_left; · (intro w hSw; (try dsimp only at hSw); have d_ := hSw.2.2.2.2.2.2.cell 0; simp only [qA, qZ] at d_; go_simp; (try with_reducible rfl)))
  (try simp only [Act.put, qI, qO, qU])
  refine lrdy 12 fun K_ hK => ?_
  go_simp
  (go_at_call 227; refine (hRd _ _ (SepC.rot8f HH)).mono ?_; rintro e u1 ⟨A1, c1, rfl, H2⟩)
  have hR := H2.own
  have H3 := SepC.rot8b H2.tail
  refine hK.out _ _ (fun _ => ?_) ?_
  ·(try dsimp only); exact ⟨H3.blk, (H3.pick 1 rfl).blk, (H3.pick 3 rfl).blk, (H3.pick 4 rfl).blk, (H3.pick 5 rfl).blk, (H3.pick 6 rfl).blk, (H3.pick 7 rfl).blk⟩
  clear hK K_
  (try simp only [Act.put, qI, qO, qU])
  refine lrdy 13 fun K_ hK => ?_
  refine step_append_G (E := numE .i64) (some 26) rfl rfl (.tmp 13) (.tmp 25) 43 rfl 3 (.int .i64 0) 8 Tryz.underlying43 int_info rfl (.slice A0 (M).length c0) M rfl (H3.pick 2 rfl).own A1 R.length c1 R rfl hR.src rfl (by omega) (fun v' u' ho5 hc5 hb5 => ?_)
  obtain ⟨A5, c5, rfl, hx1, hx2⟩ := ho5.form
  clear hx1 hx2
  have H4 := ((H3.pick 2 rfl).app ho5 hc5 hb5)
  clear ho5 hc5 hb5 hR H2 H3
  refine hK.out _ _ (fun _ => ?_) ?_
  ·(try dsimp only); exact ⟨(H4.pick 1 rfl).blk, (H4.pick 2 rfl).blk, (H4.pick 3 rfl).blk, (H4.pick 4 rfl).blk, (H4.pick 5 rfl).blk, (H4.pick 6 rfl).blk, (H4.pick 7 rfl).blk⟩
  clear hK K_
  (try simp only [Act.put, qI, qO, qU])
  have H5 := H4.pick 2 rfl
  have f0 := H5.blk.frozen 0
  have e0 := H5.blk.cell 0
  simp only [qA, qZ] at e0
  have H6 := H5.cellSet 0 (.slice A5 (M ++ R).length c5)
  clear H4 H5
  refine lrdy 14 fun K_ hK => ?_
  go_simp
  refine hK.out _ _ (fun e => absurd rfl e) ?_
  clear hK K_
  (try simp only [Act.put, qI, qO, qU])
  refine late_done (by kernel_rfl) ?_ _
  refine NoPanic.normal ?_
  go_wp2_with fail
  go_end0
  have el : (M ++ R).length = M.length + R.length := List.length_append
  rw [el] at H6
  exact ⟨rfl, A5, c5, by rw [el]; exact ((H6.pick 2 rfl).tail)⟩
 have hkb : (kd == 1) = false := by simpa using hk
 simp only [if_neg hk, List.append_nil]
 replace hk := Lib.hid hk
 clear hRc hlen
 go_enter Tryz.func232, Tryz.ntmps232
 go_wp2_with fail
 go_end0
 exact ⟨rfl, A0, c0, H1.tail⟩
theorem page_slots (h : SrOk n a m s) {qq : Int} (hl : 1 ≤ levP s.L qq) : i64B qq ∧ ∀ i : Nat, i < 8 → (slotP s.L qq (i : Int)).isSome = true := by
 unfold levP at hl
 cases e : pgAt s.L qq with
 | none => rw [e] at hl; simp at hl
 | some q_ =>
  obtain ⟨h1, h2⟩ := pgAt_mem e
  have h3 := h.inL h1; have h4 := h.le; have h5 := h.n256
  refine ⟨by unfold i64B; omega, fun i hi => ?_⟩
  obtain ⟨x, _, hx⟩ := h.slot h1 hi
  rw [h2] at hx; rw [hx]; rfl
def segL (first I PT j : Nat) : List Int := (List.range j).map fun (x : Nat) => (first : Int) + (I : Int) * (PT : Nat) + (x : Int)
theorem segL_succ (first I PT j : Nat) {X : Int} (h : (first : Int) + (I : Int) * (PT : Nat) + (j : Int) = X) : segL first I PT (j + 1) = segL first I PT j ++ [X] := by unfold segL; rw [List.range_succ, List.map_append, ← h]; rfl
theorem segL_len (first I PT j : Nat) : (segL first I PT j).length = j := by simp [segL]
theorem rchL_seg (P : List Pg) (p : Int) (I k first : Nat) : rchL P p I (k + 1) p first = segL first I (8 ^ k) (8 ^ k) := rchL_self P p I k first
set_option maxRecDepth 100000 in
set_option maxHeartbeats 8000000 in
theorem SepC.gReach1 {p qq : Int} {I : Nat} (H : SepC w0 w (blkT dd 144 (gdC gq mp q t (v)) :: ownT (numE .i64) 3 (v) (ll) :: stT q hp hb n a m (s) :: tlbT t most (T) :: mapT mp L :: blkT gq 169 (guC mp hp) :: l)) (hlv : levP s.L qq = 1) (hI : I < 8) (first : Nat) (hf : first + 8 ≤ 512) :
  Calls Tryz.prog 227 #[.pointer (some ⟨dd, 0, none⟩), .int .i64 qq, .int .i64 p, .int .i64 (I : Nat), .int .i64 (first : Nat), .int .i64 8] w fun e w' => ∃ A c, e = .returned (.slice A (rchL s.L p I 1 qq first).length c) ∧ SepC w0 w' (ownT (numE .i64) 3 (.slice A (rchL s.L p I 1 qq first).length c) (rchL s.L p I 1 qq first) :: blkT dd 144 (gdC gq mp q t (v)) :: ownT (numE .i64) 3 (v) (ll) :: stT q hp hb n a m (s) :: tlbT t most (T) :: mapT mp L :: blkT gq 169 (guC mp hp) :: l) := by
 have hok := H.at2.sok
 have hps := page_slots hok (qq := qq) (by omega)
 have H0 := ((((((H).allocN (g := w.heap.size) rfl #[.pointer (some ⟨dd, 0, none⟩)] 49).allocN (g := w.heap.size + 1) (by simp) #[.int .i64 p] 3).allocN (g := w.heap.size + 1 + 1) (by simp) #[.int .i64 (I : Nat)] 3).allocN (g := w.heap.size + 1 + 1 + 1) (by simp) #[.int .i64 (first : Nat)] 3).allocN (g := w.heap.size + 1 + 1 + 1 + 1) (by simp) #[.slice none 0 0] 43).allocN (g := w.heap.size + 1 + 1 + 1 + 1 + 1) (by simp) #[.int .i64 1] 3
 have H1 : SepC w0 ((((((w.alloc (.cells #[.pointer (some ⟨dd, 0, none⟩)] 49)).alloc (.cells #[.int .i64 p] 3)).alloc (.cells #[.int .i64 (I : Nat)] 3)).alloc (.cells #[.int .i64 (first : Nat)] 3)).alloc (.cells #[.slice none 0 0] 43)).alloc (.cells #[.int .i64 1] 3)) (blkT (w.heap.size + 1 + 1 + 1 + 1) 43 #[.slice none 0 0] :: ownT (numE .i64) 3 (.slice none 0 0) ([]) :: blkT (w.heap.size) 49 #[.pointer (some ⟨dd, 0, none⟩)] :: blkT (w.heap.size + 1) 3 #[.int .i64 p] :: blkT (w.heap.size + 1 + 1) 3 #[.int .i64 (I : Nat)] :: blkT (w.heap.size + 1 + 1 + 1) 3 #[.int .i64 (first : Nat)] :: blkT (w.heap.size + 1 + 1 + 1 + 1 + 1) 3 #[.int .i64 1] :: blkT dd 144 (gdC gq mp q t (v)) :: ownT (numE .i64) 3 (v) (ll) :: stT q hp hb n a m (s) :: tlbT t most (T) :: mapT mp L :: blkT gq 169 (guC mp hp) :: l) := by
  have h1 := ((((H0.pick 2 rfl).pick 3 rfl).pick 4 rfl).pick 5 rfl)
  have h2 := (h1.pick 5 rfl).ownNil (numE .i64) 3
  exact h2.swap
 clear H0 H
 have hE := fun (bl bd bp bi bf bt : Nat) (z : World) (H' : SepC w0 z (blkT bl 43 #[.slice none 0 0] :: ownT (numE .i64) 3 (.slice none 0 0) ([]) :: blkT bd 49 #[.pointer (some ⟨dd, 0, none⟩)] :: blkT bp 3 #[.int .i64 p] :: blkT bi 3 #[.int .i64 (I : Nat)] :: blkT bf 3 #[.int .i64 (first : Nat)] :: blkT bt 3 #[.int .i64 1] :: blkT dd 144 (gdC gq mp q t (v)) :: ownT (numE .i64) 3 (v) (ll) :: stT q hp hb n a m (s) :: tlbT t most (T) :: mapT mp L :: blkT gq 169 (guC mp hp) :: l)) => each6_any 232 (enters_of Tryz.func232 (by kernel_rfl) rfl) dd q bl bd bp bi bf bt qq (fun j => slV s.L (qq, (j : Int))) (fun j z => ∃ A c, SepC w0 z (blkT bl 43 #[.slice A (rchK s.L p I 0 qq first j).length c] :: ownT (numE .i64) 3 (.slice A (rchK s.L p I 0 qq first j).length c) (rchK s.L p I 0 qq first j) :: blkT bd 49 #[.pointer (some ⟨dd, 0, none⟩)] :: blkT bp 3 #[.int .i64 p] :: blkT bi 3 #[.int .i64 (I : Nat)] :: blkT bf 3 #[.int .i64 (first : Nat)] :: blkT bt 3 #[.int .i64 1] :: blkT dd 144 (gdC gq mp q t (v)) :: ownT (numE .i64) 3 (v) (ll) :: stT q hp hb n a m (s) :: tlbT t most (T) :: mapT mp L :: blkT gq 169 (guC mp hp) :: l))
  (fun j z hj h => by
   obtain ⟨A, c, h⟩ := h
   have h1 := (h.pick 9 rfl).sSlot qq (j : Int) hps.1
   rw [hps.2 j hj] at h1
   exact h1)
  (fun j z z' h y => by obtain ⟨A, c, h⟩ := h; exact ⟨A, c, h.new y⟩) (fun j z h => by obtain ⟨A, c, h⟩ := h; exact (h.pick 7 rfl).blk.cell 2)
  (fun j z hj h => by
   obtain ⟨A, c, h⟩ := h
   have hM := rchK_len s.L p I 0 (rchL_len s.L p I 0) qq first j
   simp only [Nat.reducePow] at hM
   have h1 := h.gReachIn0 (j := j) (slV s.L (qq, (j : Int))) (fun hk => by have := kid_lev hok hk; omega)
   refine h1.mono fun e w' ⟨he, A', c', h2⟩ => ⟨he, A', c', ?_⟩
   rw [rchK_succ]
   exact h2) z ⟨none, 0, H'⟩
 have hLs := rchL_seg s.L qq I 0 first
 have hLo := fun h => rchL_other s.L p I 0 (q := qq) first h
 simp only [Nat.reducePow, Nat.reduceAdd] at hLs hLo
 clear hok hps hlv
 by_cases hqp : qq = p
 ·subst hqp
  rw [hLs]
  clear hLs hLo hE
  go_enter Tryz.func227, Tryz.ntmps227
  go_wp2_with fail
  generalize ((((((w.alloc (.cells #[.pointer (some ⟨dd, 0, none⟩)] 49)).alloc (.cells #[.int .i64 qq] 3)).alloc (.cells #[.int .i64 (I : Nat)] 3)).alloc (.cells #[.int .i64 (first : Nat)] 3)).alloc (.cells #[.slice none 0 0] 43)).alloc (.cells #[.int .i64 1] 3)) = w1 at *
  obtain ⟨bd, hbd⟩ : ∃ g_, w.heap.size = g_ := ⟨_, rfl⟩
  rw [hbd] at H1 ⊢
  clear hbd
  generalize bd + 1 = bp at *
  generalize bp + 1 = bi at *
  generalize bi + 1 = bf at *
  generalize bf + 1 = bl at *
  generalize bl + 1 = bt at *
  go_loopw [15, 22] (fun _ s22 wr => ∃ (j : Nat) (A : Option Addr) (c : Nat), j ≤ 1 ∧ s22 = .int .i64 j ∧ SepC w0 wr (blkT bl 43 #[.slice A j c] :: ownT (numE .i64) 3 (.slice A j c) (segL first I 1 j) :: blkT bd 49 #[.pointer (some ⟨dd, 0, none⟩)] :: blkT bp 3 #[.int .i64 qq] :: blkT bi 3 #[.int .i64 (I : Nat)] :: blkT bf 3 #[.int .i64 (first : Nat)] :: blkT bt 3 #[.int .i64 1] :: blkT dd 144 (gdC gq mp q t (v)) :: ownT (numE .i64) 3 (v) (ll) :: stT q hp hb n a m (s) :: tlbT t most (T) :: mapT mp L :: blkT gq 169 (guC mp hp) :: l)) (fun _ s22 _ => 1 - (intOf s22).toNat)
  case atStart => exact ⟨0, none, 0, by omega, rfl, H1⟩
  obtain ⟨j, A, c, hj, rfl, H⟩ := hrel
  clear H1
  have e_l := H.blk.cell 0; have f_l := H.blk.frozen 0; have e_i := (H.pick 4 rfl).blk.cell 0; have e_f := (H.pick 5 rfl).blk.cell 0; have e_t := (H.pick 6 rfl).blk.cell 0
  simp only [qA, qZ] at e_l e_i e_f e_t
  by_cases hlt : j < 1
  ·have hltz : (j : Int) < 1 := by omega
   have hML : segL first I 1 j ++ [((first : Int) + (I : Int) + (j : Int))] = segL first I 1 (j + 1) := (segL_succ first I 1 j (by simp)).symm
   have hlen : (segL first I 1 j).length = j := segL_len _ _ _ _
   generalize segL first I 1 j = M at *
   replace hML := Lib.hid hML
   have ho := H.at1.own
   have H2 := H.alloc #[.int .i64 ((first : Int) + (I : Int) + (j : Int))] 3
   have ho4 := ho.new ((Chg.refl [] wr).alloc (.cells #[.int .i64 ((first : Int) + (I : Int) + (j : Int))] 3))
   have hsrc : Src (wr.alloc (.cells #[.int .i64 ((first : Int) + (I : Int) + (j : Int))] 3)) (numE .i64).k (some ⟨wr.heap.size, 0, none⟩) 1 1 ((numE .i64).all [((first : Int) + (I : Int) + (j : Int))]) := (OwnG.lit (E := numE .i64) (L := [((first : Int) + (I : Int) + (j : Int))]) (Blk.new wr 3 #[.int .i64 ((first : Int) + (I : Int) + (j : Int))]) (by simp)).src
   clear H
   go_wp2_with (at_builtin; (refine wpList_append_G (E := numE .i64) rfl _ _ 43 rfl 3 (.int .i64 0) 8 Tryz.underlying43 int_info rfl (.slice A j c) M rfl ho4 (some ⟨wr.heap.size, 0, none⟩) 1 1 [((first : Int) + (I : Int) + (j : Int))] rfl hsrc rfl (by omega) ?_); (intro v5 w5 ho5 hc5 hb5); (have H5 := (H2.pick 2 rfl).app ho5 hc5 hb5); (clear ho4 hsrc H2 ho e_l f_l e_i e_f e_t); (obtain ⟨A5, c5, rfl, _, _⟩ := ho5.form); (have H6 := H5.pick 2 rfl); (have f4 := H6.blk.frozen 0); (have c4 := H6.blk.cell 0); (simp only [qA, qZ] at c4); (have H7 := H6.cellSet 0 (.slice A5 (M ++ [((first : Int) + (I : Int) + (j : Int))]).length c5)); (clear H6 H5 ho5 hc5 hb5))
   rw [List.length_append, hlen] at H7
   replace H7 := (H7.pick 2 rfl).tail
   rw [hML.out] at H7
   go_roundw
   case rel => exact ⟨j + 1, A5, c5, by omega, by go_num, H7⟩
   case measure => simp [intOf]; omega
  have ej : j = 1 := by omega
  subst ej
  have hltz : ¬ ((1 : Nat) : Int) < 1 := by omega
  go_wp2_with fail
  go_ret
  have hlen : (segL first I 1 1).length = 1 := segL_len _ _ _ _
  refine ⟨A, c, by first | rfl | (rw [hlen]; rfl), ?_⟩
  (try rw [hlen])
  exact H.tail.swap.tail.swap.tail.swap.tail.swap.tail.swap.tail
 have hqb : (qq == p) = false := by simpa using hqp
 rw [hLo hqp]
 clear hLs hLo
 replace hqp := Lib.hid hqp
 go_enter Tryz.func227, Tryz.ntmps227
 go_wp2_with fail
 generalize ((((((w.alloc (.cells #[.pointer (some ⟨dd, 0, none⟩)] 49)).alloc (.cells #[.int .i64 p] 3)).alloc (.cells #[.int .i64 (I : Nat)] 3)).alloc (.cells #[.int .i64 (first : Nat)] 3)).alloc (.cells #[.slice none 0 0] 43)).alloc (.cells #[.int .i64 1] 3)) = w1 at *
 refine (hE _ _ _ _ _ _ _ H1).mono ?_; rintro e w2 ⟨rfl, A, c, H2⟩
 clear hE H1
 have e_l := H2.blk.cell 0
 simp only [qA, qZ] at e_l
 go_wp2_with fail
 go_ret
 exact ⟨A, c, rfl, H2.tail.swap.tail.swap.tail.swap.tail.swap.tail.swap.tail⟩
set_option maxRecDepth 100000 in
set_option maxHeartbeats 8000000 in
theorem SepC.gReach2 {p qq : Int} {I : Nat} (H : SepC w0 w (blkT dd 144 (gdC gq mp q t (v)) :: ownT (numE .i64) 3 (v) (ll) :: stT q hp hb n a m (s) :: tlbT t most (T) :: mapT mp L :: blkT gq 169 (guC mp hp) :: l)) (hlv : levP s.L qq = 2) (hI : I < 8) (first : Nat) (hf : first + 64 ≤ 512) :
  Calls Tryz.prog 227 #[.pointer (some ⟨dd, 0, none⟩), .int .i64 qq, .int .i64 p, .int .i64 (I : Nat), .int .i64 (first : Nat), .int .i64 64] w fun e w' => ∃ A c, e = .returned (.slice A (rchL s.L p I 2 qq first).length c) ∧ SepC w0 w' (ownT (numE .i64) 3 (.slice A (rchL s.L p I 2 qq first).length c) (rchL s.L p I 2 qq first) :: blkT dd 144 (gdC gq mp q t (v)) :: ownT (numE .i64) 3 (v) (ll) :: stT q hp hb n a m (s) :: tlbT t most (T) :: mapT mp L :: blkT gq 169 (guC mp hp) :: l) := by
 have hok := H.at2.sok
 have hps := page_slots hok (qq := qq) (by omega)
 have H0 := ((((((H).allocN (g := w.heap.size) rfl #[.pointer (some ⟨dd, 0, none⟩)] 49).allocN (g := w.heap.size + 1) (by simp) #[.int .i64 p] 3).allocN (g := w.heap.size + 1 + 1) (by simp) #[.int .i64 (I : Nat)] 3).allocN (g := w.heap.size + 1 + 1 + 1) (by simp) #[.int .i64 (first : Nat)] 3).allocN (g := w.heap.size + 1 + 1 + 1 + 1) (by simp) #[.slice none 0 0] 43).allocN (g := w.heap.size + 1 + 1 + 1 + 1 + 1) (by simp) #[.int .i64 8] 3
 have H1 : SepC w0 ((((((w.alloc (.cells #[.pointer (some ⟨dd, 0, none⟩)] 49)).alloc (.cells #[.int .i64 p] 3)).alloc (.cells #[.int .i64 (I : Nat)] 3)).alloc (.cells #[.int .i64 (first : Nat)] 3)).alloc (.cells #[.slice none 0 0] 43)).alloc (.cells #[.int .i64 8] 3)) (blkT (w.heap.size + 1 + 1 + 1 + 1) 43 #[.slice none 0 0] :: ownT (numE .i64) 3 (.slice none 0 0) ([]) :: blkT (w.heap.size) 49 #[.pointer (some ⟨dd, 0, none⟩)] :: blkT (w.heap.size + 1) 3 #[.int .i64 p] :: blkT (w.heap.size + 1 + 1) 3 #[.int .i64 (I : Nat)] :: blkT (w.heap.size + 1 + 1 + 1) 3 #[.int .i64 (first : Nat)] :: blkT (w.heap.size + 1 + 1 + 1 + 1 + 1) 3 #[.int .i64 8] :: blkT dd 144 (gdC gq mp q t (v)) :: ownT (numE .i64) 3 (v) (ll) :: stT q hp hb n a m (s) :: tlbT t most (T) :: mapT mp L :: blkT gq 169 (guC mp hp) :: l) := by
  have h1 := ((((H0.pick 2 rfl).pick 3 rfl).pick 4 rfl).pick 5 rfl)
  have h2 := (h1.pick 5 rfl).ownNil (numE .i64) 3
  exact h2.swap
 clear H0 H
 have hE := fun (bl bd bp bi bf bt : Nat) (z : World) (H' : SepC w0 z (blkT bl 43 #[.slice none 0 0] :: ownT (numE .i64) 3 (.slice none 0 0) ([]) :: blkT bd 49 #[.pointer (some ⟨dd, 0, none⟩)] :: blkT bp 3 #[.int .i64 p] :: blkT bi 3 #[.int .i64 (I : Nat)] :: blkT bf 3 #[.int .i64 (first : Nat)] :: blkT bt 3 #[.int .i64 8] :: blkT dd 144 (gdC gq mp q t (v)) :: ownT (numE .i64) 3 (v) (ll) :: stT q hp hb n a m (s) :: tlbT t most (T) :: mapT mp L :: blkT gq 169 (guC mp hp) :: l)) => each6_any 232 (enters_of Tryz.func232 (by kernel_rfl) rfl) dd q bl bd bp bi bf bt qq (fun j => slV s.L (qq, (j : Int))) (fun j z => ∃ A c, SepC w0 z (blkT bl 43 #[.slice A (rchK s.L p I 1 qq first j).length c] :: ownT (numE .i64) 3 (.slice A (rchK s.L p I 1 qq first j).length c) (rchK s.L p I 1 qq first j) :: blkT bd 49 #[.pointer (some ⟨dd, 0, none⟩)] :: blkT bp 3 #[.int .i64 p] :: blkT bi 3 #[.int .i64 (I : Nat)] :: blkT bf 3 #[.int .i64 (first : Nat)] :: blkT bt 3 #[.int .i64 8] :: blkT dd 144 (gdC gq mp q t (v)) :: ownT (numE .i64) 3 (v) (ll) :: stT q hp hb n a m (s) :: tlbT t most (T) :: mapT mp L :: blkT gq 169 (guC mp hp) :: l))
  (fun j z hj h => by
   obtain ⟨A, c, h⟩ := h
   have h1 := (h.pick 9 rfl).sSlot qq (j : Int) hps.1
   rw [hps.2 j hj] at h1
   exact h1)
  (fun j z z' h y => by obtain ⟨A, c, h⟩ := h; exact ⟨A, c, h.new y⟩) (fun j z h => by obtain ⟨A, c, h⟩ := h; exact (h.pick 7 rfl).blk.cell 2)
  (fun j z hj h => by
   obtain ⟨A, c, h⟩ := h
   have hM := rchK_len s.L p I 1 (rchL_len s.L p I 1) qq first j
   simp only [Nat.reducePow] at hM
   have h1 := h.gReachIn1 (j := j) (slV s.L (qq, (j : Int))) hj (by omega) (by omega) (fun f hf' hk z' l' h' => h'.gReach1 (by have := kid_lev hok hk; omega) hI f hf')
   refine h1.mono fun e w' ⟨he, A', c', h2⟩ => ⟨he, A', c', ?_⟩
   rw [rchK_succ]
   exact h2) z ⟨none, 0, H'⟩
 have hLs := rchL_seg s.L qq I 1 first
 have hLo := fun h => rchL_other s.L p I 1 (q := qq) first h
 simp only [Nat.reducePow, Nat.reduceAdd] at hLs hLo
 clear hok hps hlv
 by_cases hqp : qq = p
 ·subst hqp
  rw [hLs]
  clear hLs hLo hE
  go_enter Tryz.func227, Tryz.ntmps227
  go_wp2_with fail
  generalize ((((((w.alloc (.cells #[.pointer (some ⟨dd, 0, none⟩)] 49)).alloc (.cells #[.int .i64 qq] 3)).alloc (.cells #[.int .i64 (I : Nat)] 3)).alloc (.cells #[.int .i64 (first : Nat)] 3)).alloc (.cells #[.slice none 0 0] 43)).alloc (.cells #[.int .i64 8] 3)) = w1 at *
  obtain ⟨bd, hbd⟩ : ∃ g_, w.heap.size = g_ := ⟨_, rfl⟩
  rw [hbd] at H1 ⊢
  clear hbd
  generalize bd + 1 = bp at *
  generalize bp + 1 = bi at *
  generalize bi + 1 = bf at *
  generalize bf + 1 = bl at *
  generalize bl + 1 = bt at *
  go_loopw [15, 22] (fun _ s22 wr => ∃ (j : Nat) (A : Option Addr) (c : Nat), j ≤ 8 ∧ s22 = .int .i64 j ∧ SepC w0 wr (blkT bl 43 #[.slice A j c] :: ownT (numE .i64) 3 (.slice A j c) (segL first I 8 j) :: blkT bd 49 #[.pointer (some ⟨dd, 0, none⟩)] :: blkT bp 3 #[.int .i64 qq] :: blkT bi 3 #[.int .i64 (I : Nat)] :: blkT bf 3 #[.int .i64 (first : Nat)] :: blkT bt 3 #[.int .i64 8] :: blkT dd 144 (gdC gq mp q t (v)) :: ownT (numE .i64) 3 (v) (ll) :: stT q hp hb n a m (s) :: tlbT t most (T) :: mapT mp L :: blkT gq 169 (guC mp hp) :: l)) (fun _ s22 _ => 8 - (intOf s22).toNat)
  case atStart => exact ⟨0, none, 0, by omega, rfl, H1⟩
  obtain ⟨j, A, c, hj, rfl, H⟩ := hrel
  clear H1
  have e_l := H.blk.cell 0; have f_l := H.blk.frozen 0; have e_i := (H.pick 4 rfl).blk.cell 0; have e_f := (H.pick 5 rfl).blk.cell 0; have e_t := (H.pick 6 rfl).blk.cell 0
  simp only [qA, qZ] at e_l e_i e_f e_t
  by_cases hlt : j < 8
  ·have hltz : (j : Int) < 8 := by omega
   have hML : segL first I 8 j ++ [((first : Int) + (I : Int) * 8 + (j : Int))] = segL first I 8 (j + 1) := (segL_succ first I 8 j (by simp)).symm
   have hlen : (segL first I 8 j).length = j := segL_len _ _ _ _
   generalize segL first I 8 j = M at *
   replace hML := Lib.hid hML
   have ho := H.at1.own
   have H2 := H.alloc #[.int .i64 ((first : Int) + (I : Int) * 8 + (j : Int))] 3
   have ho4 := ho.new ((Chg.refl [] wr).alloc (.cells #[.int .i64 ((first : Int) + (I : Int) * 8 + (j : Int))] 3))
   have hsrc : Src (wr.alloc (.cells #[.int .i64 ((first : Int) + (I : Int) * 8 + (j : Int))] 3)) (numE .i64).k (some ⟨wr.heap.size, 0, none⟩) 1 1 ((numE .i64).all [((first : Int) + (I : Int) * 8 + (j : Int))]) := (OwnG.lit (E := numE .i64) (L := [((first : Int) + (I : Int) * 8 + (j : Int))]) (Blk.new wr 3 #[.int .i64 ((first : Int) + (I : Int) * 8 + (j : Int))]) (by simp)).src
   clear H
   go_wp2_with (at_builtin; (refine wpList_append_G (E := numE .i64) rfl _ _ 43 rfl 3 (.int .i64 0) 8 Tryz.underlying43 int_info rfl (.slice A j c) M rfl ho4 (some ⟨wr.heap.size, 0, none⟩) 1 1 [((first : Int) + (I : Int) * 8 + (j : Int))] rfl hsrc rfl (by omega) ?_); (intro v5 w5 ho5 hc5 hb5); (have H5 := (H2.pick 2 rfl).app ho5 hc5 hb5); (clear ho4 hsrc H2 ho e_l f_l e_i e_f e_t); (obtain ⟨A5, c5, rfl, _, _⟩ := ho5.form); (have H6 := H5.pick 2 rfl); (have f4 := H6.blk.frozen 0); (have c4 := H6.blk.cell 0); (simp only [qA, qZ] at c4); (have H7 := H6.cellSet 0 (.slice A5 (M ++ [((first : Int) + (I : Int) * 8 + (j : Int))]).length c5)); (clear H6 H5 ho5 hc5 hb5))
   rw [List.length_append, hlen] at H7
   replace H7 := (H7.pick 2 rfl).tail
   rw [hML.out] at H7
   go_roundw
   case rel => exact ⟨j + 1, A5, c5, by omega, by go_num, H7⟩
   case measure => simp [intOf]; omega
  have ej : j = 8 := by omega
  subst ej
  have hltz : ¬ ((8 : Nat) : Int) < 8 := by omega
  go_wp2_with fail
  go_ret
  have hlen : (segL first I 8 8).length = 8 := segL_len _ _ _ _
  refine ⟨A, c, by first | rfl | (rw [hlen]; rfl), ?_⟩
  (try rw [hlen])
  exact H.tail.swap.tail.swap.tail.swap.tail.swap.tail.swap.tail
 have hqb : (qq == p) = false := by simpa using hqp
 rw [hLo hqp]
 clear hLs hLo
 replace hqp := Lib.hid hqp
 go_enter Tryz.func227, Tryz.ntmps227
 go_wp2_with fail
 generalize ((((((w.alloc (.cells #[.pointer (some ⟨dd, 0, none⟩)] 49)).alloc (.cells #[.int .i64 p] 3)).alloc (.cells #[.int .i64 (I : Nat)] 3)).alloc (.cells #[.int .i64 (first : Nat)] 3)).alloc (.cells #[.slice none 0 0] 43)).alloc (.cells #[.int .i64 8] 3)) = w1 at *
 refine (hE _ _ _ _ _ _ _ H1).mono ?_; rintro e w2 ⟨rfl, A, c, H2⟩
 clear hE H1
 have e_l := H2.blk.cell 0
 simp only [qA, qZ] at e_l
 go_wp2_with fail
 go_ret
 exact ⟨A, c, rfl, H2.tail.swap.tail.swap.tail.swap.tail.swap.tail.swap.tail⟩
set_option maxRecDepth 100000 in
set_option maxHeartbeats 8000000 in
theorem SepC.gReach3 {p qq : Int} {I : Nat} (H : SepC w0 w (blkT dd 144 (gdC gq mp q t (v)) :: ownT (numE .i64) 3 (v) (ll) :: stT q hp hb n a m (s) :: tlbT t most (T) :: mapT mp L :: blkT gq 169 (guC mp hp) :: l)) (hlv : levP s.L qq = 3) (hI : I < 8) (first : Nat) (hf : first + 512 ≤ 512) :
  Calls Tryz.prog 227 #[.pointer (some ⟨dd, 0, none⟩), .int .i64 qq, .int .i64 p, .int .i64 (I : Nat), .int .i64 (first : Nat), .int .i64 512] w fun e w' => ∃ A c, e = .returned (.slice A (rchL s.L p I 3 qq first).length c) ∧ SepC w0 w' (ownT (numE .i64) 3 (.slice A (rchL s.L p I 3 qq first).length c) (rchL s.L p I 3 qq first) :: blkT dd 144 (gdC gq mp q t (v)) :: ownT (numE .i64) 3 (v) (ll) :: stT q hp hb n a m (s) :: tlbT t most (T) :: mapT mp L :: blkT gq 169 (guC mp hp) :: l) := by
 have hok := H.at2.sok
 have hps := page_slots hok (qq := qq) (by omega)
 have H0 := ((((((H).allocN (g := w.heap.size) rfl #[.pointer (some ⟨dd, 0, none⟩)] 49).allocN (g := w.heap.size + 1) (by simp) #[.int .i64 p] 3).allocN (g := w.heap.size + 1 + 1) (by simp) #[.int .i64 (I : Nat)] 3).allocN (g := w.heap.size + 1 + 1 + 1) (by simp) #[.int .i64 (first : Nat)] 3).allocN (g := w.heap.size + 1 + 1 + 1 + 1) (by simp) #[.slice none 0 0] 43).allocN (g := w.heap.size + 1 + 1 + 1 + 1 + 1) (by simp) #[.int .i64 64] 3
 have H1 : SepC w0 ((((((w.alloc (.cells #[.pointer (some ⟨dd, 0, none⟩)] 49)).alloc (.cells #[.int .i64 p] 3)).alloc (.cells #[.int .i64 (I : Nat)] 3)).alloc (.cells #[.int .i64 (first : Nat)] 3)).alloc (.cells #[.slice none 0 0] 43)).alloc (.cells #[.int .i64 64] 3)) (blkT (w.heap.size + 1 + 1 + 1 + 1) 43 #[.slice none 0 0] :: ownT (numE .i64) 3 (.slice none 0 0) ([]) :: blkT (w.heap.size) 49 #[.pointer (some ⟨dd, 0, none⟩)] :: blkT (w.heap.size + 1) 3 #[.int .i64 p] :: blkT (w.heap.size + 1 + 1) 3 #[.int .i64 (I : Nat)] :: blkT (w.heap.size + 1 + 1 + 1) 3 #[.int .i64 (first : Nat)] :: blkT (w.heap.size + 1 + 1 + 1 + 1 + 1) 3 #[.int .i64 64] :: blkT dd 144 (gdC gq mp q t (v)) :: ownT (numE .i64) 3 (v) (ll) :: stT q hp hb n a m (s) :: tlbT t most (T) :: mapT mp L :: blkT gq 169 (guC mp hp) :: l) := by
  have h1 := ((((H0.pick 2 rfl).pick 3 rfl).pick 4 rfl).pick 5 rfl)
  have h2 := (h1.pick 5 rfl).ownNil (numE .i64) 3
  exact h2.swap
 clear H0 H
 have hE := fun (bl bd bp bi bf bt : Nat) (z : World) (H' : SepC w0 z (blkT bl 43 #[.slice none 0 0] :: ownT (numE .i64) 3 (.slice none 0 0) ([]) :: blkT bd 49 #[.pointer (some ⟨dd, 0, none⟩)] :: blkT bp 3 #[.int .i64 p] :: blkT bi 3 #[.int .i64 (I : Nat)] :: blkT bf 3 #[.int .i64 (first : Nat)] :: blkT bt 3 #[.int .i64 64] :: blkT dd 144 (gdC gq mp q t (v)) :: ownT (numE .i64) 3 (v) (ll) :: stT q hp hb n a m (s) :: tlbT t most (T) :: mapT mp L :: blkT gq 169 (guC mp hp) :: l)) => each6_any 232 (enters_of Tryz.func232 (by kernel_rfl) rfl) dd q bl bd bp bi bf bt qq (fun j => slV s.L (qq, (j : Int))) (fun j z => ∃ A c, SepC w0 z (blkT bl 43 #[.slice A (rchK s.L p I 2 qq first j).length c] :: ownT (numE .i64) 3 (.slice A (rchK s.L p I 2 qq first j).length c) (rchK s.L p I 2 qq first j) :: blkT bd 49 #[.pointer (some ⟨dd, 0, none⟩)] :: blkT bp 3 #[.int .i64 p] :: blkT bi 3 #[.int .i64 (I : Nat)] :: blkT bf 3 #[.int .i64 (first : Nat)] :: blkT bt 3 #[.int .i64 64] :: blkT dd 144 (gdC gq mp q t (v)) :: ownT (numE .i64) 3 (v) (ll) :: stT q hp hb n a m (s) :: tlbT t most (T) :: mapT mp L :: blkT gq 169 (guC mp hp) :: l))
  (fun j z hj h => by
   obtain ⟨A, c, h⟩ := h
   have h1 := (h.pick 9 rfl).sSlot qq (j : Int) hps.1
   rw [hps.2 j hj] at h1
   exact h1)
  (fun j z z' h y => by obtain ⟨A, c, h⟩ := h; exact ⟨A, c, h.new y⟩) (fun j z h => by obtain ⟨A, c, h⟩ := h; exact (h.pick 7 rfl).blk.cell 2)
  (fun j z hj h => by
   obtain ⟨A, c, h⟩ := h
   have hM := rchK_len s.L p I 2 (rchL_len s.L p I 2) qq first j
   simp only [Nat.reducePow] at hM
   have h1 := h.gReachIn2 (j := j) (slV s.L (qq, (j : Int))) hj (by omega) (by omega) (fun f hf' hk z' l' h' => h'.gReach2 (by have := kid_lev hok hk; omega) hI f hf')
   refine h1.mono fun e w' ⟨he, A', c', h2⟩ => ⟨he, A', c', ?_⟩
   rw [rchK_succ]
   exact h2) z ⟨none, 0, H'⟩
 have hLs := rchL_seg s.L qq I 2 first
 have hLo := fun h => rchL_other s.L p I 2 (q := qq) first h
 simp only [Nat.reducePow, Nat.reduceAdd] at hLs hLo
 clear hok hps hlv
 by_cases hqp : qq = p
 ·subst hqp
  rw [hLs]
  clear hLs hLo hE
  go_enter Tryz.func227, Tryz.ntmps227
  go_wp2_with fail
  generalize ((((((w.alloc (.cells #[.pointer (some ⟨dd, 0, none⟩)] 49)).alloc (.cells #[.int .i64 qq] 3)).alloc (.cells #[.int .i64 (I : Nat)] 3)).alloc (.cells #[.int .i64 (first : Nat)] 3)).alloc (.cells #[.slice none 0 0] 43)).alloc (.cells #[.int .i64 64] 3)) = w1 at *
  obtain ⟨bd, hbd⟩ : ∃ g_, w.heap.size = g_ := ⟨_, rfl⟩
  rw [hbd] at H1 ⊢
  clear hbd
  generalize bd + 1 = bp at *
  generalize bp + 1 = bi at *
  generalize bi + 1 = bf at *
  generalize bf + 1 = bl at *
  generalize bl + 1 = bt at *
  go_loopw [15, 22] (fun _ s22 wr => ∃ (j : Nat) (A : Option Addr) (c : Nat), j ≤ 64 ∧ s22 = .int .i64 j ∧ SepC w0 wr (blkT bl 43 #[.slice A j c] :: ownT (numE .i64) 3 (.slice A j c) (segL first I 64 j) :: blkT bd 49 #[.pointer (some ⟨dd, 0, none⟩)] :: blkT bp 3 #[.int .i64 qq] :: blkT bi 3 #[.int .i64 (I : Nat)] :: blkT bf 3 #[.int .i64 (first : Nat)] :: blkT bt 3 #[.int .i64 64] :: blkT dd 144 (gdC gq mp q t (v)) :: ownT (numE .i64) 3 (v) (ll) :: stT q hp hb n a m (s) :: tlbT t most (T) :: mapT mp L :: blkT gq 169 (guC mp hp) :: l)) (fun _ s22 _ => 64 - (intOf s22).toNat)
  case atStart => exact ⟨0, none, 0, by omega, rfl, H1⟩
  obtain ⟨j, A, c, hj, rfl, H⟩ := hrel
  clear H1
  have e_l := H.blk.cell 0; have f_l := H.blk.frozen 0; have e_i := (H.pick 4 rfl).blk.cell 0; have e_f := (H.pick 5 rfl).blk.cell 0; have e_t := (H.pick 6 rfl).blk.cell 0
  simp only [qA, qZ] at e_l e_i e_f e_t
  by_cases hlt : j < 64
  ·have hltz : (j : Int) < 64 := by omega
   have hML : segL first I 64 j ++ [((first : Int) + (I : Int) * 64 + (j : Int))] = segL first I 64 (j + 1) := (segL_succ first I 64 j (by simp)).symm
   have hlen : (segL first I 64 j).length = j := segL_len _ _ _ _
   generalize segL first I 64 j = M at *
   replace hML := Lib.hid hML
   have ho := H.at1.own
   have H2 := H.alloc #[.int .i64 ((first : Int) + (I : Int) * 64 + (j : Int))] 3
   have ho4 := ho.new ((Chg.refl [] wr).alloc (.cells #[.int .i64 ((first : Int) + (I : Int) * 64 + (j : Int))] 3))
   have hsrc : Src (wr.alloc (.cells #[.int .i64 ((first : Int) + (I : Int) * 64 + (j : Int))] 3)) (numE .i64).k (some ⟨wr.heap.size, 0, none⟩) 1 1 ((numE .i64).all [((first : Int) + (I : Int) * 64 + (j : Int))]) := (OwnG.lit (E := numE .i64) (L := [((first : Int) + (I : Int) * 64 + (j : Int))]) (Blk.new wr 3 #[.int .i64 ((first : Int) + (I : Int) * 64 + (j : Int))]) (by simp)).src
   clear H
   go_wp2_with (at_builtin; (refine wpList_append_G (E := numE .i64) rfl _ _ 43 rfl 3 (.int .i64 0) 8 Tryz.underlying43 int_info rfl (.slice A j c) M rfl ho4 (some ⟨wr.heap.size, 0, none⟩) 1 1 [((first : Int) + (I : Int) * 64 + (j : Int))] rfl hsrc rfl (by omega) ?_); (intro v5 w5 ho5 hc5 hb5); (have H5 := (H2.pick 2 rfl).app ho5 hc5 hb5); (clear ho4 hsrc H2 ho e_l f_l e_i e_f e_t); (obtain ⟨A5, c5, rfl, _, _⟩ := ho5.form); (have H6 := H5.pick 2 rfl); (have f4 := H6.blk.frozen 0); (have c4 := H6.blk.cell 0); (simp only [qA, qZ] at c4); (have H7 := H6.cellSet 0 (.slice A5 (M ++ [((first : Int) + (I : Int) * 64 + (j : Int))]).length c5)); (clear H6 H5 ho5 hc5 hb5))
   rw [List.length_append, hlen] at H7
   replace H7 := (H7.pick 2 rfl).tail
   rw [hML.out] at H7
   go_roundw
   case rel => exact ⟨j + 1, A5, c5, by omega, by go_num, H7⟩
   case measure => simp [intOf]; omega
  have ej : j = 64 := by omega
  subst ej
  have hltz : ¬ ((64 : Nat) : Int) < 64 := by omega
  go_wp2_with fail
  go_ret
  have hlen : (segL first I 64 64).length = 64 := segL_len _ _ _ _
  refine ⟨A, c, by first | rfl | (rw [hlen]; rfl), ?_⟩
  (try rw [hlen])
  exact H.tail.swap.tail.swap.tail.swap.tail.swap.tail.swap.tail
 have hqb : (qq == p) = false := by simpa using hqp
 rw [hLo hqp]
 clear hLs hLo
 replace hqp := Lib.hid hqp
 go_enter Tryz.func227, Tryz.ntmps227
 go_wp2_with fail
 generalize ((((((w.alloc (.cells #[.pointer (some ⟨dd, 0, none⟩)] 49)).alloc (.cells #[.int .i64 p] 3)).alloc (.cells #[.int .i64 (I : Nat)] 3)).alloc (.cells #[.int .i64 (first : Nat)] 3)).alloc (.cells #[.slice none 0 0] 43)).alloc (.cells #[.int .i64 64] 3)) = w1 at *
 refine (hE _ _ _ _ _ _ _ H1).mono ?_; rintro e w2 ⟨rfl, A, c, H2⟩
 clear hE H1
 have e_l := H2.blk.cell 0
 simp only [qA, qZ] at e_l
 go_wp2_with fail
 go_ret
 exact ⟨A, c, rfl, H2.tail.swap.tail.swap.tail.swap.tail.swap.tail.swap.tail⟩
set_option maxRecDepth 100000 in
set_option maxHeartbeats 4000000 in
theorem SepC.gReach (H : SepC w0 w (blkT dd 144 (gdC gq mp q t (v)) :: ownT (numE .i64) 3 (v) (ll) :: stT q hp hb n a m (s) :: tlbT t most (T) :: mapT mp L :: blkT gq 169 (guC mp hp) :: l)) (root p i : Int) :
  Calls Tryz.prog 216 #[.pointer (some ⟨dd, 0, none⟩), .int .i64 root, .int .i64 p, .int .i64 i] w fun e w' => ∃ A c, e = .returned (.slice A (reachP s.L root p i).length c) ∧ SepC w0 w' (ownT (numE .i64) 3 (.slice A (reachP s.L root p i).length c) (reachP s.L root p i) :: blkT dd 144 (gdC gq mp q t (v)) :: ownT (numE .i64) 3 (v) (ll) :: stT q hp hb n a m (s) :: tlbT t most (T) :: mapT mp L :: blkT gq 169 (guC mp hp) :: l) := by
 have hok := H.at2.sok
 have hF := H.at2.sFind ⟨root, 3, 0⟩
 simp only [Ky.cs] at hF
 have c2 := H.blk.cell 2
 unfold gdC at c2
 simp only [qA, qZ, qS] at c2
 have hnn := fun h => reach_none (P := s.L) (root := root) (p := p) (i := i) h
 have hyy := fun t_ (ht : pgOf s.L ⟨root, 3, 0⟩ = some t_) hi => reach_is (p := p) (i := i) hok ht hi
 cases hp_ : pgOf s.L ⟨root, 3, 0⟩ with
 | none =>
  rw [hnn (by first | exact .inl hp_ | exact .inr (by omega))]
  rw [hp_] at hF
  simp only [Option.isSome_none] at hF
  clear hnn hyy hok
  go_enter Tryz.func216, Tryz.ntmps216
  go_wp2_with fail
  refine hF.mono ?_; rintro e w1 ⟨rfl, y1⟩
  clear hF c2
  have H1 := (H.new y1).ownNil (numE .i64) 3
  go_wp2_with fail
  go_ret
  exact ⟨none, 0, rfl, H1⟩
 | some tp =>
  have hlv : levP s.L tp.f = 3 := by
   obtain ⟨h1, h2⟩ := pgOf_mem hp_
   unfold levP; rw [hok.at_ h1, Option.map_some, h2]; rfl
  by_cases hi : 0 ≤ i ∧ i < 8
  ·rw [hyy tp hp_ hi]
   obtain ⟨I, rfl⟩ := Int.eq_ofNat_of_zero_le hi.1
   have hI : I < 8 := by omega
   unfold findV at hF
   rw [hp_] at hF
   simp only [Option.isSome_some, Option.map_some, Option.getD_some] at hF
   have hR := fun {z : World} (H' : SepC w0 z (blkT dd 144 (gdC gq mp q t (v)) :: ownT (numE .i64) 3 (v) (ll) :: stT q hp hb n a m (s) :: tlbT t most (T) :: mapT mp L :: blkT gq 169 (guC mp hp) :: l)) => H'.gReach3 (p := p) hlv hI 0 (by omega)
   have hi1 : ¬ (I : Int) < 0 := by omega
   have hi2 : ¬ (I : Int) ≥ 8 := by omega
   clear hnn hyy hok hp_ hlv hi
   generalize tp.f = tf at *
   generalize rchL s.L p I 3 tf 0 = R at *
   simp only [Int.cast_ofNat_Int] at hR
   go_enter Tryz.func216, Tryz.ntmps216
   go_wp2_with fail
   refine hF.mono ?_; rintro e w1 ⟨rfl, y1⟩
   clear hF c2
   have H1 := H.new y1
   clear H
   go_wp2_with fail
   refine (hR H1).mono ?_; rintro e w2 ⟨A, c, rfl, H2⟩
   go_wp2_with fail
   go_ret
   exact ⟨A, c, rfl, H2⟩
  by_cases hi1 : i < 0
  ·rw [hnn (by first | exact .inl hp_ | exact .inr (by omega))]
   unfold findV at hF
   rw [hp_] at hF
   simp only [Option.isSome_some, Option.map_some, Option.getD_some] at hF
   clear hnn hyy hok hi hlv hp_
   go_enter Tryz.func216, Tryz.ntmps216
   go_wp2_with fail
   refine hF.mono ?_; rintro e w1 ⟨rfl, y1⟩
   clear hF c2
   have H1 := (H.new y1).ownNil (numE .i64) 3
   go_wp2_with fail
   go_ret
   exact ⟨none, 0, rfl, H1⟩
  have hi2 : i ≥ 8 := by omega
  rw [hnn (by first | exact .inl hp_ | exact .inr (by omega))]
  unfold findV at hF
  rw [hp_] at hF
  simp only [Option.isSome_some, Option.map_some, Option.getD_some] at hF
  clear hnn hyy hok hi hlv hp_
  go_enter Tryz.func216, Tryz.ntmps216
  go_wp2_with fail
  refine hF.mono ?_; rintro e w1 ⟨rfl, y1⟩
  clear hF c2
  have H1 := (H.new y1).ownNil (numE .i64) 3
  go_wp2_with fail
  go_ret
  exact ⟨none, 0, rfl, H1⟩
end
end Go.Proofs.YtmbgepafpcbakaaGreatDoor
