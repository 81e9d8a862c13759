/-
  The live question 'head' of the laws of model.
-/
import Derived.Test.YtedginkenmafmaaGreatDoorModelH
import Derived.Test.YtedginkenmafmaaGreatDoorG8c
namespace Go.Proofs.YtedginkenmafmaaGreatDoor
open Go.RowKit Go.Shelf Go.Maps

def mdL : List Pu := [⟨1, 0, 8199⟩, ⟨2, 0, 12295⟩, ⟨3, 0, 36871⟩, ⟨3, 1, 40965⟩]
def md0 : Ms := ⟨madeW mdL, 1, []⟩
def md1 : Ms := (accM 16 L16 md0 0 true 8 0).1
theorem md_e0 : accM 16 L16 md0 0 true 8 0 = (md1, ⟨0, 0, 0, 0⟩) := Prod.ext rfl (by kernel_rfl)
def md2 : Ms := (accM 16 L16 md1 1 true 8 77).1
theorem md_e1 : accM 16 L16 md1 1 true 8 77 = (md2, ⟨0, 0, 0, 0⟩) := Prod.ext rfl (by kernel_rfl)
def md3 : Ms := (accM 16 L16 md2 0 false 8 0).1
theorem md_e2 : accM 16 L16 md2 0 false 8 0 = (md3, ⟨0, 77, 0, 0⟩) := Prod.ext rfl (by kernel_rfl)
theorem md_e3 : getG 16 md3.W L16 3 0 = 36967 := by kernel_rfl
def md4 : Ms := (accM 16 L16 md3 1 true 64 1).1
theorem md_e4 : accM 16 L16 md3 1 true 64 1 = (md4, ⟨1, 0, 7, 64⟩) := Prod.ext rfl (by kernel_rfl)
def md5 : Ms := (accM 16 L16 md4 0 true 4 0).1
theorem md_e5 : accM 16 L16 md4 0 true 4 0 = (md5, ⟨4, 0, 0, 4⟩) := Prod.ext rfl (by kernel_rfl)
def md6 : Ms := (accM 16 L16 md5 0 true 1048576 0).1
theorem md_e6 : accM 16 L16 md5 0 true 1048576 0 = (md6, ⟨2, 0, 0, 1048576⟩) := Prod.ext rfl (by kernel_rfl)
def md7 : Ms := (editM 16 L16 md6 3 0 0).1
theorem md_e7 : editM 16 L16 md6 3 0 0 = (md7, ⟨0, 0, 0, 0⟩) := Prod.ext rfl (by kernel_rfl)
def md8 : Ms := (accM 16 L16 md7 0 true 8 0).1
theorem md_e8 : accM 16 L16 md7 0 true 8 0 = (md8, ⟨0, 77, 0, 0⟩) := Prod.ext rfl (by kernel_rfl)
def md9 : Ms := forgetM md8 0
theorem md_e9 : hasT md8.T 0 0 = true := by kernel_rfl
def md10 : Ms := (accM 16 L16 md9 0 true 8 0).1
theorem md_e10 : accM 16 L16 md9 0 true 8 0 = (md10, ⟨1, 0, 4, 8⟩) := Prod.ext rfl (by kernel_rfl)
def md11 : Ms := (editM 16 L16 md10 16 0 0).1
theorem md_e11 : editM 16 L16 md10 16 0 0 = (md11, ⟨3, 0, 0, 0⟩) := Prod.ext rfl (by kernel_rfl)
theorem md_last : md11.T = [] := by kernel_rfl
theorem slp_md {w : World} {g : Nat} {t : TypeId} (hb : Blk w g t #[.int .i64 1, .int .i64 0, .int .u64 8199, .int .i64 2, .int .i64 0, .int .u64 12295, .int .i64 3, .int .i64 0, .int .u64 36871, .int .i64 3, .int .i64 1, .int .u64 40965]) : SlP w (some ⟨g, 0, none⟩) 4 mdL :=
  ⟨by decide, rfl, by decide, fun _ => ⟨g, 0, rfl, hb.lt, fun j x hx => by
    match j with
    | 0 => obtain rfl : (⟨1, 0, 8199⟩ : Pu) = x := by simpa [mdL] using hx
           exact ⟨hb.cell 0, hb.cell 1, hb.cell 2⟩
    | 1 => obtain rfl : (⟨2, 0, 12295⟩ : Pu) = x := by simpa [mdL] using hx
           exact ⟨hb.cell 3, hb.cell 4, hb.cell 5⟩
    | 2 => obtain rfl : (⟨3, 0, 36871⟩ : Pu) = x := by simpa [mdL] using hx
           exact ⟨hb.cell 6, hb.cell 7, hb.cell 8⟩
    | 3 => obtain rfl : (⟨3, 1, 40965⟩ : Pu) = x := by simpa [mdL] using hx
           exact ⟨hb.cell 9, hb.cell 10, hb.cell 11⟩
    | j + 4 => simp [mdL] at hx⟩⟩
theorem tables_any (w : World) : Calls Tryz.prog 44 #[] w fun e w' => ∃ g, e = .returned (.slice (some ⟨g, 0, none⟩) 4 4) ∧ Chg [] w w' ∧ SlP w' (some ⟨g, 0, none⟩) 4 mdL := by
  go_enter Tryz.func44, Tryz.ntmps44
  go_wp2_with fail
  go_ret
  exact ⟨_, rfl, (Chg.refl _ _).alloc _, slp_md (Blk.new _ _ _)⟩

set_option maxRecDepth 100000 in
set_option maxHeartbeats 16000000 in
theorem Mohead_any (w : World) (hE : ErrIn w) : Calls Tryz.prog 11 #[] w fun e w' => e = .returned (.bool true) ∧ Chg [] w w' := by
  have hq0 : ∀ w0, (binOp .eql 37 (.agg #[.int .i64 0, .int .u64 0, .int .i64 0, .int .u64 0]) (.agg #[.int .i64 0, .int .u64 0, .int .i64 0, .int .u64 0])).run Tryz.prog w0 = .ok (.bool true) w0 := fun w0 => by rw [run_eqO, Ot.eqb_self]
  have hq1 : ∀ w0, (binOp .eql 37 (.agg #[.int .i64 0, .int .u64 77, .int .i64 0, .int .u64 0]) (.agg #[.int .i64 0, .int .u64 77, .int .i64 0, .int .u64 0])).run Tryz.prog w0 = .ok (.bool true) w0 := fun w0 => by rw [run_eqO, Ot.eqb_self]
  have hq2 : ∀ w0, (binOp .eql 37 (.agg #[.int .i64 1, .int .u64 0, .int .i64 7, .int .u64 64]) (.agg #[.int .i64 1, .int .u64 0, .int .i64 7, .int .u64 64])).run Tryz.prog w0 = .ok (.bool true) w0 := fun w0 => by rw [run_eqO, Ot.eqb_self]
  have hq3 : ∀ w0, (binOp .eql 37 (.agg #[.int .i64 4, .int .u64 0, .int .i64 0, .int .u64 4]) (.agg #[.int .i64 4, .int .u64 0, .int .i64 0, .int .u64 4])).run Tryz.prog w0 = .ok (.bool true) w0 := fun w0 => by rw [run_eqO, Ot.eqb_self]
  have hq4 : ∀ w0, (binOp .eql 37 (.agg #[.int .i64 2, .int .u64 0, .int .i64 0, .int .u64 1048576]) (.agg #[.int .i64 2, .int .u64 0, .int .i64 0, .int .u64 1048576])).run Tryz.prog w0 = .ok (.bool true) w0 := fun w0 => by rw [run_eqO, Ot.eqb_self]
  have hq5 : ∀ w0, (binOp .eql 37 (.agg #[.int .i64 1, .int .u64 0, .int .i64 4, .int .u64 8]) (.agg #[.int .i64 1, .int .u64 0, .int .i64 4, .int .u64 8])).run Tryz.prog w0 = .ok (.bool true) w0 := fun w0 => by rw [run_eqO, Ot.eqb_self]
  have hq6 : ∀ w0, (binOp .eql 37 (.agg #[.int .i64 3, .int .u64 0, .int .i64 0, .int .u64 0]) (.agg #[.int .i64 3, .int .u64 0, .int .i64 0, .int .u64 0])).run Tryz.prog w0 = .ok (.bool true) w0 := fun w0 => by rw [run_eqO, Ot.eqb_self]
  go_enter Tryz.func11, Tryz.ntmps11
  go_wp2_with fail
  refine (tables_any _).mono ?_; rintro e w1 ⟨tg, rfl, k1, hl⟩
  go_wp2_with fail
  refine (Made_at _ 4 4 mdL _ hl).mono ?_; rintro e w2 ⟨q, S, p, hh, b, rfl, k2, g2, hb⟩
  have k3 := k1.trans k2 (by simp)
  have hbw : w.heap.size ≤ b := Nat.le_trans k1.size hb
  have hE2 := hE.self k3
  have hwd := (made_wd mdL (by decide)).1
  clear hl k1 k2 hb
  go_wp2_with fail
  have hN := MNew_b (w0 := w) (w := w2) (q := q) (S := S) (p := p) (L := L16) (h := hh) (b := b) (n := 16) 1 hE k3 (madeW mdL) g2 hwd hbw
  clear k3 g2
  refine hN.mono ?_; rintro e v0 ⟨m, t, rfl, H0, _⟩
  clear hN
  have H0 : ModB w [] v0 m t q S p L16 hh b 16 md0 := H0
  go_wp2_with fail
  have hA := MAcc_b 0 true 8 0 (by omega) (by omega) H0
  rw [md_e0] at hA
  rw [show ((8 : Nat) : Int) = 8 from rfl] at hA
  (try simp only [Ot.cs] at hA)
  refine hA.mono ?_; rintro e v1 ⟨rfl, J1, f1⟩
  clear hA H0
  have al := (Chg.refl [] v1).alloc (.cells #[.int .i64 0, .int .u64 0, .int .i64 0, .int .u64 0] 37)
  have o0 := Blk.new v1 37 #[.int .i64 0, .int .u64 0, .int .i64 0, .int .u64 0]
  have H1 := J1.more (G := [v1.heap.size]) al (by intro i hi; simp at hi; subst hi; simp)
  clear J1 f1 al
  go_wp2_with fail
  generalize hg0 : v1.heap.size = g0 at *
  generalize hv0 : v1.alloc (.cells #[.int .i64 0, .int .u64 0, .int .i64 0, .int .u64 0] 37) = u0 at *
  clear hg0 hv0
  have hA := MAcc_b 1 true 8 77 (by omega) (by omega) H1
  rw [md_e1] at hA
  rw [show ((8 : Nat) : Int) = 8 from rfl] at hA
  (try simp only [Ot.cs] at hA)
  refine hA.mono ?_; rintro e v2 ⟨rfl, J2, f2⟩
  clear hA H1
  have o0 := f2.blk o0 (by simp)
  have al := (Chg.refl [] v2).alloc (.cells #[.int .i64 0, .int .u64 0, .int .i64 0, .int .u64 0] 37)
  have o1 := Blk.new v2 37 #[.int .i64 0, .int .u64 0, .int .i64 0, .int .u64 0]
  have H2 := J2.more (G := [v2.heap.size]) al (by intro i hi; simp at hi; subst hi; simp)
  have o0 := o0.chg_ al (by simp)
  clear J2 f2 al
  go_wp2_with fail
  generalize hg1 : v2.heap.size = g1 at *
  generalize hv1 : v2.alloc (.cells #[.int .i64 0, .int .u64 0, .int .i64 0, .int .u64 0] 37) = u1 at *
  clear hg1 hv1
  have hA := MAcc_b 0 false 8 0 (by omega) (by omega) H2
  rw [md_e2] at hA
  rw [show ((8 : Nat) : Int) = 8 from rfl] at hA
  (try simp only [Ot.cs] at hA)
  refine hA.mono ?_; rintro e v3 ⟨rfl, J3, f3⟩
  clear hA H2
  have o0 := f3.blk o0 (by simp)
  have o1 := f3.blk o1 (by simp)
  have al := (Chg.refl [] v3).alloc (.cells #[.int .i64 0, .int .u64 77, .int .i64 0, .int .u64 0] 37)
  have o2 := Blk.new v3 37 #[.int .i64 0, .int .u64 77, .int .i64 0, .int .u64 0]
  have H3 := J3.more (G := [v3.heap.size]) al (by intro i hi; simp at hi; subst hi; simp)
  have o0 := o0.chg_ al (by simp)
  have o1 := o1.chg_ al (by simp)
  clear J3 f3 al
  go_wp2_with fail
  generalize hg2 : v3.heap.size = g2 at *
  generalize hv2 : v3.alloc (.cells #[.int .i64 0, .int .u64 77, .int .i64 0, .int .u64 0] 37) = u2 at *
  clear hg2 hv2
  have hG := (GuGet_at q S p L16 hh b 16 md3.W 3 0 _ H3.gu)
  rw [md_e3, show hasG 16 L16 3 0 = true by decide] at hG
  refine hG.mono ?_; rintro e u ⟨rfl, rfl⟩
  clear hG
  go_wp2_with fail
  have hA := MAcc_b 1 true 64 1 (by omega) (by omega) H3
  rw [md_e4] at hA
  rw [show ((64 : Nat) : Int) = 64 from rfl] at hA
  (try simp only [Ot.cs] at hA)
  refine hA.mono ?_; rintro e v4 ⟨rfl, J4, f4⟩
  clear hA H3
  have o0 := f4.blk o0 (by simp)
  have o1 := f4.blk o1 (by simp)
  have o2 := f4.blk o2 (by simp)
  have al := (Chg.refl [] v4).alloc (.cells #[.int .i64 1, .int .u64 0, .int .i64 7, .int .u64 64] 37)
  have o4 := Blk.new v4 37 #[.int .i64 1, .int .u64 0, .int .i64 7, .int .u64 64]
  have H4 := J4.more (G := [v4.heap.size]) al (by intro i hi; simp at hi; subst hi; simp)
  have o0 := o0.chg_ al (by simp)
  have o1 := o1.chg_ al (by simp)
  have o2 := o2.chg_ al (by simp)
  clear J4 f4 al
  go_wp2_with fail
  generalize hg4 : v4.heap.size = g4 at *
  generalize hv4 : v4.alloc (.cells #[.int .i64 1, .int .u64 0, .int .i64 7, .int .u64 64] 37) = u4 at *
  clear hg4 hv4
  have hA := MAcc_b 0 true 4 0 (by omega) (by omega) H4
  rw [md_e5] at hA
  rw [show ((4 : Nat) : Int) = 4 from rfl] at hA
  (try simp only [Ot.cs] at hA)
  refine hA.mono ?_; rintro e v5 ⟨rfl, J5, f5⟩
  clear hA H4
  have o0 := f5.blk o0 (by simp)
  have o1 := f5.blk o1 (by simp)
  have o2 := f5.blk o2 (by simp)
  have o4 := f5.blk o4 (by simp)
  have al := (Chg.refl [] v5).alloc (.cells #[.int .i64 4, .int .u64 0, .int .i64 0, .int .u64 4] 37)
  have o5 := Blk.new v5 37 #[.int .i64 4, .int .u64 0, .int .i64 0, .int .u64 4]
  have H5 := J5.more (G := [v5.heap.size]) al (by intro i hi; simp at hi; subst hi; simp)
  have o0 := o0.chg_ al (by simp)
  have o1 := o1.chg_ al (by simp)
  have o2 := o2.chg_ al (by simp)
  have o4 := o4.chg_ al (by simp)
  clear J5 f5 al
  go_wp2_with fail
  generalize hg5 : v5.heap.size = g5 at *
  generalize hv5 : v5.alloc (.cells #[.int .i64 4, .int .u64 0, .int .i64 0, .int .u64 4] 37) = u5 at *
  clear hg5 hv5
  have hA := MAcc_b 0 true 1048576 0 (by omega) (by omega) H5
  rw [md_e6] at hA
  rw [show ((1048576 : Nat) : Int) = 1048576 from rfl] at hA
  (try simp only [Ot.cs] at hA)
  refine hA.mono ?_; rintro e v6 ⟨rfl, J6, f6⟩
  clear hA H5
  have o0 := f6.blk o0 (by simp)
  have o1 := f6.blk o1 (by simp)
  have o2 := f6.blk o2 (by simp)
  have o4 := f6.blk o4 (by simp)
  have o5 := f6.blk o5 (by simp)
  have al := (Chg.refl [] v6).alloc (.cells #[.int .i64 2, .int .u64 0, .int .i64 0, .int .u64 1048576] 37)
  have o6 := Blk.new v6 37 #[.int .i64 2, .int .u64 0, .int .i64 0, .int .u64 1048576]
  have H6 := J6.more (G := [v6.heap.size]) al (by intro i hi; simp at hi; subst hi; simp)
  have o0 := o0.chg_ al (by simp)
  have o1 := o1.chg_ al (by simp)
  have o2 := o2.chg_ al (by simp)
  have o4 := o4.chg_ al (by simp)
  have o5 := o5.chg_ al (by simp)
  clear J6 f6 al
  go_wp2_with fail
  generalize hg6 : v6.heap.size = g6 at *
  generalize hv6 : v6.alloc (.cells #[.int .i64 2, .int .u64 0, .int .i64 0, .int .u64 1048576] 37) = u6 at *
  clear hg6 hv6
  have hA := MEdit_b 3 0 0 (by omega) H6
  rw [md_e7] at hA
  (try simp only [Ot.cs] at hA)
  refine hA.mono ?_; rintro e v7 ⟨rfl, J7, f7⟩
  clear hA H6
  have o0 := f7.blk o0 (by simp)
  have o1 := f7.blk o1 (by simp)
  have o2 := f7.blk o2 (by simp)
  have o4 := f7.blk o4 (by simp)
  have o5 := f7.blk o5 (by simp)
  have o6 := f7.blk o6 (by simp)
  have H7 : ModB w _ v7 m t q S p L16 hh b 16 md7 := J7
  clear J7 f7
  go_wp2_with fail
  have hA := MAcc_b 0 true 8 0 (by omega) (by omega) H7
  rw [md_e8] at hA
  rw [show ((8 : Nat) : Int) = 8 from rfl] at hA
  (try simp only [Ot.cs] at hA)
  refine hA.mono ?_; rintro e v8 ⟨rfl, J8, f8⟩
  clear hA H7
  have o0 := f8.blk o0 (by simp)
  have o1 := f8.blk o1 (by simp)
  have o2 := f8.blk o2 (by simp)
  have o4 := f8.blk o4 (by simp)
  have o5 := f8.blk o5 (by simp)
  have o6 := f8.blk o6 (by simp)
  have al := (Chg.refl [] v8).alloc (.cells #[.int .i64 0, .int .u64 77, .int .i64 0, .int .u64 0] 37)
  have o8 := Blk.new v8 37 #[.int .i64 0, .int .u64 77, .int .i64 0, .int .u64 0]
  have H8 := J8.more (G := [v8.heap.size]) al (by intro i hi; simp at hi; subst hi; simp)
  have o0 := o0.chg_ al (by simp)
  have o1 := o1.chg_ al (by simp)
  have o2 := o2.chg_ al (by simp)
  have o4 := o4.chg_ al (by simp)
  have o5 := o5.chg_ al (by simp)
  have o6 := o6.chg_ al (by simp)
  clear J8 f8 al
  go_wp2_with fail
  generalize hg8 : v8.heap.size = g8 at *
  generalize hv8 : v8.alloc (.cells #[.int .i64 0, .int .u64 77, .int .i64 0, .int .u64 0] 37) = u8 at *
  clear hg8 hv8
  have hA := MForget_b 0 H8
  rw [md_e9] at hA
  (try simp only [Ot.cs] at hA)
  refine hA.mono ?_; rintro e v9 ⟨rfl, J9, f9⟩
  clear hA H8
  have o0 := f9.blk o0 (by simp)
  have o1 := f9.blk o1 (by simp)
  have o2 := f9.blk o2 (by simp)
  have o4 := f9.blk o4 (by simp)
  have o5 := f9.blk o5 (by simp)
  have o6 := f9.blk o6 (by simp)
  have o8 := f9.blk o8 (by simp)
  have H9 : ModB w _ v9 m t q S p L16 hh b 16 md9 := J9
  clear J9 f9
  go_wp2_with fail
  have hA := MAcc_b 0 true 8 0 (by omega) (by omega) H9
  rw [md_e10] at hA
  rw [show ((8 : Nat) : Int) = 8 from rfl] at hA
  (try simp only [Ot.cs] at hA)
  refine hA.mono ?_; rintro e v10 ⟨rfl, J10, f10⟩
  clear hA H9
  have o0 := f10.blk o0 (by simp)
  have o1 := f10.blk o1 (by simp)
  have o2 := f10.blk o2 (by simp)
  have o4 := f10.blk o4 (by simp)
  have o5 := f10.blk o5 (by simp)
  have o6 := f10.blk o6 (by simp)
  have o8 := f10.blk o8 (by simp)
  have al := (Chg.refl [] v10).alloc (.cells #[.int .i64 1, .int .u64 0, .int .i64 4, .int .u64 8] 37)
  have o10 := Blk.new v10 37 #[.int .i64 1, .int .u64 0, .int .i64 4, .int .u64 8]
  have H10 := J10.more (G := [v10.heap.size]) al (by intro i hi; simp at hi; subst hi; simp)
  have o0 := o0.chg_ al (by simp)
  have o1 := o1.chg_ al (by simp)
  have o2 := o2.chg_ al (by simp)
  have o4 := o4.chg_ al (by simp)
  have o5 := o5.chg_ al (by simp)
  have o6 := o6.chg_ al (by simp)
  have o8 := o8.chg_ al (by simp)
  clear J10 f10 al
  go_wp2_with fail
  generalize hg10 : v10.heap.size = g10 at *
  generalize hv10 : v10.alloc (.cells #[.int .i64 1, .int .u64 0, .int .i64 4, .int .u64 8] 37) = u10 at *
  clear hg10 hv10
  have hA := MEdit_b 16 0 0 (by omega) H10
  rw [md_e11] at hA
  (try simp only [Ot.cs] at hA)
  refine hA.mono ?_; rintro e v11 ⟨rfl, J11, f11⟩
  clear hA H10
  have o0 := f11.blk o0 (by simp)
  have o1 := f11.blk o1 (by simp)
  have o2 := f11.blk o2 (by simp)
  have o4 := f11.blk o4 (by simp)
  have o5 := f11.blk o5 (by simp)
  have o6 := f11.blk o6 (by simp)
  have o8 := f11.blk o8 (by simp)
  have o10 := f11.blk o10 (by simp)
  have al := (Chg.refl [] v11).alloc (.cells #[.int .i64 3, .int .u64 0, .int .i64 0, .int .u64 0] 37)
  have o11 := Blk.new v11 37 #[.int .i64 3, .int .u64 0, .int .i64 0, .int .u64 0]
  have H11 := J11.more (G := [v11.heap.size]) al (by intro i hi; simp at hi; subst hi; simp)
  have o0 := o0.chg_ al (by simp)
  have o1 := o1.chg_ al (by simp)
  have o2 := o2.chg_ al (by simp)
  have o4 := o4.chg_ al (by simp)
  have o5 := o5.chg_ al (by simp)
  have o6 := o6.chg_ al (by simp)
  have o8 := o8.chg_ al (by simp)
  have o10 := o10.chg_ al (by simp)
  clear J11 f11 al
  skip
  obtain ⟨o0_0, o0_1, o0_2, o0_3, _, _, _, _⟩ := blk4 o0
  obtain ⟨o1_0, o1_1, o1_2, o1_3, _, _, _, _⟩ := blk4 o1
  obtain ⟨o2_0, o2_1, o2_2, o2_3, _, _, _, _⟩ := blk4 o2
  obtain ⟨o4_0, o4_1, o4_2, o4_3, _, _, _, _⟩ := blk4 o4
  obtain ⟨o5_0, o5_1, o5_2, o5_3, _, _, _, _⟩ := blk4 o5
  obtain ⟨o6_0, o6_1, o6_2, o6_3, _, _, _, _⟩ := blk4 o6
  obtain ⟨o8_0, o8_1, o8_2, o8_3, _, _, _, _⟩ := blk4 o8
  obtain ⟨o10_0, o10_1, o10_2, o10_3, _, _, _, _⟩ := blk4 o10
  obtain ⟨o11_0, o11_1, o11_2, o11_3, _, _, _, _⟩ := blk4 o11
  have hAll := MAll_b H11
  rw [md_last] at hAll
  have hc := H11.c0
  clear H11 o0 o1 o2 o4 o5 o6 o8 o10 o11
  go_wp2_with fail
  refine hAll.mono ?_; rintro e z ⟨A, c, rfl, kz, _, _⟩
  go_wp2_with fail
  go_ret
  exact ⟨rfl, hc.trans kz (by simp)⟩

end Go.Proofs.YtedginkenmafmaaGreatDoor
