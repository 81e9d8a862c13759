/-
 The document's Drop, New.
-/
import Derived.Test.YtgjfidjhbkaobaaGreatRgFK
namespace Go.Proofs.YtgjfidjhbkaobaaGreat
open Go.RowKit Go.Maps
section
variable {w0 w w' : World} {dd gq mp q rp rb t n a m most : Nat} {L : List Int} {v : Value} {s : Sr} {T : List Ht} {ll : List Int} {l : List Th} {d : Gd}
set_option maxRecDepth 100000 in
set_option maxHeartbeats 4000000 in
theorem SepC.rgDrop (H : SepC w0 w (blkT dd 99 (gdC gq mp q t (v)) :: ownT (numE .i64) 3 (v) ((d).l) :: rstT q rp rb n a m ((d).s) :: rtlbT t most ((d).T) :: rmapT mp L :: blkT gq 147 (rguC mp rp) :: l)) (G : GdIn n a m L d) (p : Int) :
  Calls Tryz.prog 61 #[.pointer (some ⟨dd, 0, none⟩), .int .i64 p] w fun e w' => e = .returned (.bool (dropB d.s p)) ∧ ∃ v', SepC w0 w' (blkT dd 99 (gdC gq mp q t (v')) :: ownT (numE .i64) 3 (v') ((dropG d p).l) :: rstT q rp rb n a m ((dropG d p).s) :: rtlbT t most ((dropG d p).T) :: rmapT mp L :: blkT gq 147 (rguC mp rp) :: l) := by
 have hK := H.at2.rKey p
 have hT := fun {z : World} {l' : List Th} (g : Int) (H' : SepC w0 z (blkT dd 99 (gdC gq mp q t (v)) :: ownT (numE .i64) 3 (v) ((d).l) :: rstT q rp rb n a m ((d).s) :: rtlbT t most ((d).T) :: rmapT mp L :: blkT gq 147 (rguC mp rp) :: l')) => H'.rgTight g (by have := G.len; omega)
 have hD := fun {z : World} {l' : List Th} (H' : SepC w0 z (rstT q rp rb n a m d.s :: l')) => H'.rDrop p
 have e1 : dropG d p = match pgAt d.s.L p with | some q => ⟨dropS d.s p, [], if q.k.role = 0 then d.l.filter (fun x => decide (x ≠ q.k.g)) else d.l⟩ | none => d := rfl
 have e2 : dropB d.s p = (pgAt d.s.L p).isSome := rfl
 rw [e1]
 rw [e2] at hD ⊢
 clear e1 e2 G
 unfold keyV at hK
 have c2 := H.blk.cell 2
 unfold gdC at c2
 simp only [qA, qZ, qS] at c2
 cases hq_ : pgAt d.s.L p with
 | none =>
  simp only [hq_, Option.map_none, Option.getD_none, Option.isSome_none, Ky.cs] at hK ⊢
  clear hT hD hq_
  go_enter Tryz.func61, Tryz.ntmps61
  go_wp2_with fail
  refine hK.mono ?_; rintro e w1 ⟨rfl, y1⟩
  clear hK c2
  have H1 := (H.new y1).alloc #[.int .i64 0, .int .i64 0, .int .i64 0] 33
  go_wp2_with fail
  go_ret
  exact ⟨rfl, v, H1.tail⟩
 | some qq =>
  simp only [hq_, Option.map_some, Option.getD_some, Option.isSome_some] at hK hD ⊢
  clear hq_
  obtain ⟨qf, ⟨kg, kl, kr⟩, qs⟩ := qq
  simp only [Ky.cs] at hK ⊢
  generalize dropS d.s p = ds at *
  by_cases hr : kr = 0
  ·subst hr
   simp only [if_true]
   go_enter Tryz.func61, Tryz.ntmps61
   go_wp2_with fail
   refine hK.mono ?_; rintro e w1 ⟨rfl, y1⟩
   clear hK c2
   have H1 := (H.new y1).alloc #[.int .i64 kg, .int .i64 kl, .int .i64 0] 33
   have k0_ := H1.blk.cell 0; have k2_ := H1.blk.cell 2
   simp only [qA, qZ, qS] at k0_ k2_
   have H2 := SepC.mv6 H1
   clear H H1 y1
   go_wp2_with fail
   refine (hT kg H2).mono ?_; rintro e w3 ⟨rfl, v2, H3⟩
   clear hT k0_ k2_ H2
   have c2 := H3.blk.cell 2
   unfold gdC at c2
   simp only [qA, qZ, qS] at c2
   go_wp2_with fail
   refine (hD H3.at2).mono ?_; rintro e w4 ⟨rfl, H4⟩
   clear hD c2 H3
   replace H4 := H4.bk2
   have c3 := H4.blk.cell 3
   unfold gdC at c3
   simp only [qA, qZ, qS] at c3
   have hA := H4.at3.rtAll
   go_wp2_with fail
   refine hA.mono ?_; rintro e w5 ⟨rfl, H5⟩
   clear hA c3 H4
   go_wp2_with fail
   go_ret
   exact ⟨rfl, v2, (SepC.mb6 H5.bk3).tail⟩
  simp only [if_neg hr]
  have hrb : (kr == 0) = false := by simpa using hr
  replace hr := Lib.hid hr
  go_enter Tryz.func61, Tryz.ntmps61
  go_wp2_with fail
  refine hK.mono ?_; rintro e w1 ⟨rfl, y1⟩
  clear hK c2
  have H1 := (H.new y1).alloc #[.int .i64 kg, .int .i64 kl, .int .i64 kr] 33
  have k0_ := H1.blk.cell 0; have k2_ := H1.blk.cell 2
  simp only [qA, qZ, qS] at k0_ k2_
  have H2 := SepC.mv6 H1
  clear H H1 y1
  clear k0_
  go_upto_region 6 with fail
  clear k2_ hT
  have H3 := H2
  clear H2
  have c2 := H3.blk.cell 2
  unfold gdC at c2
  simp only [qA, qZ, qS] at c2
  go_wp2_with fail
  refine (hD H3.at2).mono ?_; rintro e w4 ⟨rfl, H4⟩
  clear hD c2 H3
  replace H4 := H4.bk2
  have c3 := H4.blk.cell 3
  unfold gdC at c3
  simp only [qA, qZ, qS] at c3
  have hA := H4.at3.rtAll
  go_wp2_with fail
  refine hA.mono ?_; rintro e w5 ⟨rfl, H5⟩
  clear hA c3 H4
  go_wp2_with fail
  go_ret
  exact ⟨rfl, v, (SepC.mb6 H5.bk3).tail⟩
set_option maxHeartbeats 400000 in
theorem SepC.rgNew (H : SepC w0 w l) : Calls Tryz.prog 48 #[.pointer (some ⟨gq, 0, none⟩), .pointer (some ⟨mp, 0, none⟩), .pointer (some ⟨q, 0, none⟩), .pointer (some ⟨t, 0, none⟩)] w fun e w' => ∃ dd, e = .returned (.pointer (some ⟨dd, 0, none⟩)) ∧ SepC w0 w' (blkT dd 99 (gdC gq mp q t (.slice none 0 0)) :: ownT (numE .i64) 3 (.slice none 0 0) [] :: l) := by
 have H1 := (H.ownNil (numE .i64) 3).alloc (gdC gq mp q t (.slice none 0 0)) 99
 unfold gdC at H1
 clear H
 go_enter Tryz.func48, Tryz.ntmps48
 go_wp2_with fail
 go_ret
 exact ⟨_, rfl, H1⟩
end
end Go.Proofs.YtgjfidjhbkaobaaGreat
