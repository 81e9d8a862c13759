/-
  The live question 'head' of the laws of choice.
-/
import Derived.Test.YtgebfagiomcmbaaGreatDoorChoiceBK
import Derived.Test.YtgebfagiomcmbaaGreatDoorChoiceDK
import Derived.Test.YtgebfagiomcmbaaGreatDoorChoiceEK
import Derived.Test.YtgebfagiomcmbaaGreatDoorG10bK
import Derived.Test.YtgebfagiomcmbaaGreatDoorG8cK
namespace Go.Proofs.YtgebfagiomcmbaaGreatDoor
open Go.RowKit Go.Shelf Go.Maps

def chL : List Pu := [⟨1, 0, 8231⟩, ⟨2, 0, 12327⟩, ⟨3, 0, 36903⟩, ⟨3, 1, 40967⟩]
theorem slp_ch {w : World} {g : Nat} {t : TypeId} (hb : Blk w g t #[.int .i64 1, .int .i64 0, .int .u64 8231, .int .i64 2, .int .i64 0, .int .u64 12327, .int .i64 3, .int .i64 0, .int .u64 36903, .int .i64 3, .int .i64 1, .int .u64 40967]) : SlP w (some ⟨g, 0, none⟩) 4 chL :=
  ⟨by decide, rfl, by decide, fun _ => ⟨g, 0, rfl, hb.lt, fun j x hx => by
    match j with
    | 0 => obtain rfl : (⟨1, 0, 8231⟩ : Pu) = x := by simpa [chL] using hx
           exact ⟨hb.cell 0, hb.cell 1, hb.cell 2⟩
    | 1 => obtain rfl : (⟨2, 0, 12327⟩ : Pu) = x := by simpa [chL] using hx
           exact ⟨hb.cell 3, hb.cell 4, hb.cell 5⟩
    | 2 => obtain rfl : (⟨3, 0, 36903⟩ : Pu) = x := by simpa [chL] using hx
           exact ⟨hb.cell 6, hb.cell 7, hb.cell 8⟩
    | 3 => obtain rfl : (⟨3, 1, 40967⟩ : Pu) = x := by simpa [chL] using hx
           exact ⟨hb.cell 9, hb.cell 10, hb.cell 11⟩
    | j + 4 => simp [chL] at hx⟩⟩
def ch0 : Ms := ⟨madeW chL, 1, []⟩
def chA : List Ch := [⟨true, 0⟩, ⟨true, 0⟩, ⟨true, 1⟩, ⟨false, 5⟩, ⟨true, 512⟩]
def ch1 : Ms := appM 16 L16 ch0 chA
theorem ch_n0 : appN 16 L16 ch0 chA = 1 := by kernel_rfl
theorem ch_k1 : ch1.T.length = 1 := by kernel_rfl
def ch2 : Ms := appM 16 L16 ch1 [⟨false, 0⟩]
theorem ch_n1 : appN 16 L16 ch1 [⟨false, 0⟩] = 1 := by kernel_rfl
theorem ch_k2 : ch2.T.length = 0 := by kernel_rfl
def chB : List Ch := [⟨true, 3⟩, ⟨false, 300⟩]
theorem ch_p : putC chB = [128, 3, 1, 44] := by decide
theorem ch_g : getC [128, 3, 1, 44] = some chB := by decide
theorem ch_g2 : getC [2, 0] = none := by decide
theorem ch_g1 : getC [2] = none := by decide
theorem ch_s : strOfNums [128, 3, 1, 44] = ⟨#[128, 3, 1, 44]⟩ := by decide

set_option maxRecDepth 100000 in
set_option maxHeartbeats 8000000 in
theorem Chhead_any (w : World) (hE : ErrIn w) : Calls Tryz.prog 9 #[] w fun e w' => e = .returned (.bool true) ∧ Chg [] w w' := by
  have e511 : Ch.ok ⟨false, 511⟩ = true := by decide
  have em1 : Ch.ok ⟨false, -1⟩ = false := by decide
  replace e511 := Lib.hid e511
  replace em1 := Lib.hid em1
  go_enter Tryz.func9, Tryz.ntmps9
  go_wp2_with fail
  have al := (Chg.refl [] w).alloc (.cells #[.int .i64 1, .int .i64 0, .int .u64 8231, .int .i64 2, .int .i64 0, .int .u64 12327, .int .i64 3, .int .i64 0, .int .u64 36903, .int .i64 3, .int .i64 1, .int .u64 40967] 72)
  have hl := slp_ch (Blk.new w 72 #[.int .i64 1, .int .i64 0, .int .u64 8231, .int .i64 2, .int .i64 0, .int .u64 12327, .int .i64 3, .int .i64 0, .int .u64 36903, .int .i64 3, .int .i64 1, .int .u64 40967])
  refine (Made_at _ 4 4 chL _ hl).mono ?_; rintro e w2 ⟨q, S, p, hh, b, rfl, k2, g2, hb⟩
  have k3 := al.trans k2 (by simp)
  have hbw : w.heap.size ≤ b := by simp at hb; omega
  have hwd := (made_wd chL (by decide)).1
  clear hl k2 hb al
  go_wp2_with fail
  have hN := MNew_b (w0 := w) (w := w2) (q := q) (S := S) (p := p) (L := L16) (h := hh) (b := b) (n := 16) 1 hE k3 (madeW chL) g2 hwd hbw
  clear k3 g2
  refine hN.mono ?_; rintro e v0 ⟨m, t, rfl, H0, _⟩
  clear hN
  have H0 : ModB w [] v0 m t q S p L16 hh b 16 ch0 := H0
  go_wp2_with fail
  have al := (Chg.refl [] v0).alloc (.cells #[.bool true, .int .i64 0, .bool true, .int .i64 0, .bool true, .int .i64 1, .bool false, .int .i64 5, .bool true, .int .i64 512] 56)
  have hb := Blk.new v0 56 #[.bool true, .int .i64 0, .bool true, .int .i64 0, .bool true, .int .i64 1, .bool false, .int .i64 5, .bool true, .int .i64 512]
  have H := H0.more (G := [v0.heap.size]) al (by intro i hi; simp at hi; subst hi; simp)
  have hA := ChApply_b (some ⟨v0.heap.size, 0, none⟩) 5 5 chA (fun w' _ f => OwnG.slg (E := chE) (OwnG.lit (L := chA) (f.blk hb (by simp)) (by decide))) H
  rw [ch_n0] at hA
  refine hA.mono ?_; rintro e v1 ⟨rfl, J, _⟩
  have H1 : ModB w _ v1 m t q S p L16 hh b 16 ch1 := J.less (G := []) (by simp)
  clear hA H J hb al H0
  have hAll := MAll_b H1
  go_wp2_with fail
  refine hAll.mono ?_; rintro e v2 ⟨A, c, rfl, kz, _, _⟩
  rw [ch_k1]
  replace H1 := H1.new kz
  clear hAll kz
  go_wp2_with fail
  have al := (Chg.refl [] v2).alloc (.cells #[.bool false, .int .i64 0] 56)
  have hb := Blk.new v2 56 #[.bool false, .int .i64 0]
  have H := H1.more (G := [v2.heap.size]) al (by intro i hi; simp at hi; subst hi; simp)
  have hA := ChApply_b (some ⟨v2.heap.size, 0, none⟩) 1 1 [Ch.mk false 0] (fun w' _ f => OwnG.slg (E := chE) (OwnG.lit (L := [Ch.mk false 0]) (f.blk hb (by simp)) (by decide))) H
  rw [ch_n1] at hA
  refine hA.mono ?_; rintro e v3 ⟨rfl, J, _⟩
  have H2 : ModB w _ v3 m t q S p L16 hh b 16 ch2 := J.less (G := []) (by simp)
  clear hA H J hb al H1
  go_wp2_with fail
  have k0 := H2.c0
  have al := (Chg.refl [] v3).alloc (.cells #[.bool true, .int .i64 3, .bool false, .int .i64 300] 56)
  have hb := Blk.new v3 56 #[.bool true, .int .i64 3, .bool false, .int .i64 300]
  have hP := ChPut_any (some ⟨v3.heap.size, 0, none⟩) 2 2 chB _ (OwnG.slg (E := chE) (OwnG.lit (L := chB) hb (by decide))) (by decide)
  rw [ch_p, show ([128, 3, 1, 44] : List Int).length = 4 from rfl] at hP
  refine hP.mono ?_; rintro e v4 ⟨A6, c6, rfl, ho6, _, k4⟩
  replace H2 := (H2.new al).new k4
  clear hP hb al k4 k0
  go_wp2_with fail
  have hG := ChGet_any A6 4 c6 [128, 3, 1, 44] _ ho6.slg (by decide) (by decide)
  rw [ch_g] at hG
  refine hG.mono ?_; rintro e v5 ⟨(⟨hn, _⟩ | ⟨A7, c7, L7, hL, rfl, lg7⟩), k5⟩; · cases hn
  injection hL with hL; subst hL
  replace ho6 := ho6.new k5
  replace H2 := H2.new k5
  clear hG k5
  go_wp2_with fail
  have al := (Chg.refl [] v5).alloc (.cells #[.int .u8 2, .int .u8 0] 5)
  have hb := Blk.new v5 5 #[.int .u8 2, .int .u8 0]
  have hG := ChGet_any (some ⟨v5.heap.size, 0, none⟩) 2 2 [2, 0] _ (OwnG.slg (E := numE .u8) (OwnG.lit (L := [2, 0]) hb (by decide))) (by decide) (by decide)
  rw [ch_g2] at hG
  refine hG.mono ?_; rintro e v6 ⟨(⟨_, rfl⟩ | ⟨_, _, _, hn, _⟩), k5⟩; rotate_left; · cases hn
  replace ho6 := (ho6.new al).new k5
  replace H2 := (H2.new al).new k5
  replace lg7 := (lg7.2.1.new al).new k5
  clear hG k5 al hb
  go_wp2_with fail
  have al := (Chg.refl [] v6).alloc (.cells #[.int .u8 2] 5)
  have hb := Blk.new v6 5 #[.int .u8 2]
  have hG := ChGet_any (some ⟨v6.heap.size, 0, none⟩) 1 1 [2] _ (OwnG.slg (E := numE .u8) (OwnG.lit (L := [2]) hb (by decide))) (by decide) (by decide)
  rw [ch_g1] at hG
  refine hG.mono ?_; rintro e v7 ⟨(⟨_, rfl⟩ | ⟨_, _, _, hn, _⟩), k5⟩; rotate_left; · cases hn
  replace ho6 := (ho6.new al).new k5
  replace H2 := (H2.new al).new k5
  replace lg7 := (lg7.new al).new k5
  clear hG k5 al hb
  rw [show chB.length = 2 from rfl] at *
  have hAll := MAll_b H2
  go_wp2_with fail
  refine hAll.mono ?_; rintro e v8 ⟨A8, c8, rfl, kz, _, _⟩
  rw [ch_k2]
  replace ho6 := ho6.new kz
  replace lg7 := lg7.new kz
  replace H2 := H2.new kz
  clear hAll kz
  have hstr := run_str (P := Tryz.prog) ho6.slg (fun e => (ho6.nil_ e).1) 25 5 9 Tryz.underlying25 Tryz.underlying5 Tryz.underlying9 (c := c6)
  rw [ch_s] at hstr
  have al := (Chg.refl [] v8).alloc (.cells #[.bool true, .int .i64 3, .bool false, .int .i64 300] 56)
  have hb := Blk.new v8 56 #[.bool true, .int .i64 3, .bool false, .int .i64 300]
  have hS := ChSame_any A7 (some ⟨v8.heap.size, 0, none⟩) 2 2 c7 2 chB chB _ (lg7.slg.new al) (OwnG.slg (E := chE) (OwnG.lit (L := chB) hb (by decide)))
  rw [decide_eq_true (rfl : chB = chB)] at hS
  have h0 := H2.c0.trans al (by simp)
  clear H2 ho6 lg7
  go_wp2_with fail
  refine hS.mono ?_; rintro e v9 ⟨rfl, k9⟩
  clear hS hstr hb al
  go_wp2_with fail
  have hR := ChRight_any false 511 v9
  rw [e511.out] at hR
  refine hR.mono ?_; rintro e v10 ⟨rfl, k10⟩
  clear hR
  go_wp2_with fail
  have hR := ChRight_any false (-1) v10
  rw [em1.out] at hR
  refine hR.mono ?_; rintro e v11 ⟨rfl, k11⟩
  clear hR
  go_wp2_with fail
  go_ret
  exact ⟨rfl, ((h0.trans k9 (by simp)).trans k10 (by simp)).trans k11 (by simp)⟩

end Go.Proofs.YtgebfagiomcmbaaGreatDoor
