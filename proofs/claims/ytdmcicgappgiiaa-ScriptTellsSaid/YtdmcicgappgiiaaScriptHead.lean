/-
  The live question 'head' of the laws of script.
-/
import Derived.Test.YtdmcicgappgiiaaScriptF
namespace Go.Proofs.Ytdmcicgappgiiaa
open Go.RowKit Go.Shelf

def hdL : List Sop := [⟨4, false, 0, 0, 5, 0, 0⟩, ⟨1, true, 258, 7, 0, 0, 0⟩, ⟨5, false, 0, 3, 1, 2, 0⟩]
def hdB : List Int := [4, 5, 129, 0, 0, 0, 0, 0, 0, 1, 2, 0, 0, 0, 0, 0, 0, 0, 7, 5, 1, 2, 0, 0, 0, 0, 0, 0, 0, 3]
theorem hdL_wf : ∀ o ∈ hdL, o.Wf := by
  intro o ho
  simp only [hdL, List.mem_cons, List.not_mem_nil, or_false] at ho
  rcases ho with rfl | rfl | rfl <;> exact ⟨by decide, by decide⟩
theorem hdL_right : hdL.all rightS = true := by decide
theorem hdB_is : hdL.flatMap oneS = hdB := by decide
theorem hd_put : putS hdL = hdB := by unfold putS; rw [if_pos hdL_right, hdB_is]
theorem hd_get : getS hdB = (hdL, 30) := by rw [← hdB_is, getS_all hdL hdL_wf hdL_right, hdB_is]; rfl
theorem hd_get9 : getS (hdB ++ [9]) = (hdL, 30) := by
  rw [← hdB_is, getS_first hdL [] hdL_wf hdL_right (by decide) (by decide), hdB_is]; rfl
theorem hd_get5 : getS [5, 1, 8, 0, 0, 0, 0, 0, 0, 0, 0] = ([], 0) := getS_stop (by decide)
theorem hd_get132 : getS [132, 1] = ([], 0) := getS_stop (by decide)
theorem hd_bytes : ∀ x ∈ hdB, 0 ≤ x ∧ x < 256 := by decide
theorem hd_put9 : putS [⟨9, false, 0, 0, 0, 0, 0⟩] = [] := by decide
theorem hd_str : strOfNums (hdB.take 3) = ⟨#[4, 5, 129]⟩ := by decide
theorem hd_r0 : rightS ⟨4, false, 0, 0, 5, 0, 0⟩ = true := by decide
theorem hd_r1 : rightS ⟨4, false, 0, 0, 0, 0, 1⟩ = false := by decide

set_option maxRecDepth 100000 in
set_option maxHeartbeats 8000000 in
theorem Schead_any (w : World) : Calls Try.prog 10 #[] w fun e w' => e = .returned (.bool true) ∧ Chg [] w w' := by
  have B1 := Blk.new w 31 #[.int .i64 4, .bool false, .int .u64 0, .int .u64 0, .int .i64 5, .int .i64 0, .int .i64 0, .int .i64 1, .bool true, .int .u64 258, .int .u64 7, .int .i64 0, .int .i64 0, .int .i64 0, .int .i64 5, .bool false, .int .u64 0, .int .u64 3, .int .i64 1, .int .i64 2, .int .i64 0]
  have k1 : Chg [] w (w.alloc (.cells #[.int .i64 4, .bool false, .int .u64 0, .int .u64 0, .int .i64 5, .int .i64 0, .int .i64 0, .int .i64 1, .bool true, .int .u64 258, .int .u64 7, .int .i64 0, .int .i64 0, .int .i64 0, .int .i64 5, .bool false, .int .u64 0, .int .u64 3, .int .i64 1, .int .i64 2, .int .i64 0] 31)) := (Chg.refl [] w).alloc _
  have s1 : SlG opE (w.alloc (.cells #[.int .i64 4, .bool false, .int .u64 0, .int .u64 0, .int .i64 5, .int .i64 0, .int .i64 0, .int .i64 1, .bool true, .int .u64 258, .int .u64 7, .int .i64 0, .int .i64 0, .int .i64 0, .int .i64 5, .bool false, .int .u64 0, .int .u64 3, .int .i64 1, .int .i64 2, .int .i64 0] 31)) (some ⟨w.heap.size, 0, none⟩) 3 hdL := OwnG.slg (c := 3) (OwnG.lit (E := opE) (L := hdL) B1 (by decide))
  have g1 : w.heap.size < (w.alloc (.cells #[.int .i64 4, .bool false, .int .u64 0, .int .u64 0, .int .i64 5, .int .i64 0, .int .i64 0, .int .i64 1, .bool true, .int .u64 258, .int .u64 7, .int .i64 0, .int .i64 0, .int .i64 0, .int .i64 5, .bool false, .int .u64 0, .int .u64 3, .int .i64 1, .int .i64 2, .int .i64 0] 31)).heap.size := by simp
  have q0 : ∀ i u, (Sop.cl ⟨4, false, 0, 0, 5, 0, 0⟩)[i]? = some u → (w.alloc (.cells #[.int .i64 4, .bool false, .int .u64 0, .int .u64 0, .int .i64 5, .int .i64 0, .int .i64 0, .int .i64 1, .bool true, .int .u64 258, .int .u64 7, .int .i64 0, .int .i64 0, .int .i64 0, .int .i64 5, .bool false, .int .u64 0, .int .u64 3, .int .i64 1, .int .i64 2, .int .i64 0] 31)).cell? ⟨w.heap.size, i, none⟩ = some u := fun i u h => by have := (s1.at_ (by omega)); obtain ⟨b, off, e, _, hr⟩ := this; injection e with e; injection e with e1 e2; subst e1; subst e2; have := hr 0 _ rfl i u h; simpa using this
  go_enter Try.func10, Try.ntmps10
  go_wp2_with fail
  generalize w.alloc (.cells #[.int .i64 4, .bool false, .int .u64 0, .int .u64 0, .int .i64 5, .int .i64 0, .int .i64 0, .int .i64 1, .bool true, .int .u64 258, .int .u64 7, .int .i64 0, .int .i64 0, .int .i64 0, .int .i64 5, .bool false, .int .u64 0, .int .u64 3, .int .i64 1, .int .i64 2, .int .i64 0] 31) = w1 at *
  generalize w.heap.size = g0 at *
  clear B1
  refine (ScPut_is (n := 30) hd_put rfl s1 hdL_wf (by decide)).mono ?_; rintro e w2 ⟨A2, c2, rfl, lg2⟩
  go_wp2_with fail
  refine (ScGet_is (n := 3) (ki := 30) (er := 0) hd_get rfl rfl rfl lg2.2.1.slg lg2.2.1.cap.1 (by decide) hd_bytes).mono ?_; rintro e w3 ⟨A3, c3, rfl, lg3⟩
  have lgb := lg2.new lg3.1
  have lge : LG (numE .u8) w3 (w3.alloc (.cells #[] 5)) 5 (.slice (some ⟨w3.heap.size, 0, none⟩) 0 0) [] := ⟨(Chg.refl [] w3).alloc _, OwnG.lit (L := []) (Blk.new w3 5 #[]) (by decide), by simp [Value.ownBlock]⟩
  have hb2 := lgb.new lge.1
  go_wp2_with (at_builtin; first | (refine wpList_append_G rfl _ _ 23 rfl 5 (.int .u8 0) 1 Try.underlying23 (by kernel_rfl) rfl (.slice (some ⟨w3.heap.size, 0, none⟩) 0 0) ([]) rfl (lge.2.1) (A2) 30 c2 (hdB) rfl (hb2.2.1.slg.src hb2.2.1.nil_) (rfl) (by decide) ?_; intro v5 w5 ho5 hc5 hv5; obtain ⟨A5, c5, rfl, _, _⟩ := ho5.form; have lg5 := lge.app ho5 hc5 hv5; rw [List.nil_append] at lg5; have lg6 : LG (numE .u8) w3 (w5.alloc (.cells #[.int .u8 9] 5)) 5 (.slice A5 30 c5) hdB := lg5.new ((Chg.refl [] w5).alloc _)) | (refine wpList_append_G rfl _ _ 23 rfl 5 (.int .u8 0) 1 Try.underlying23 (by kernel_rfl) rfl (.slice A5 30 c5) (hdB) rfl (lg6.2.1) (some ⟨w5.heap.size, 0, none⟩) 1 1 ([9]) rfl (OwnG.src (OwnG.lit (L := [9]) (Blk.new w5 5 #[.int .u8 9]) (by simp))) (rfl) (by decide) ?_; intro v7 w7 ho7 hc7 hv7; obtain ⟨A7, c7, rfl, _, _⟩ := ho7.form; have lg7 := lg6.app ho7 hc7 hv7))
  refine (ScGet_is (n := 3) (ki := 30) (er := 12) hd_get9 rfl rfl rfl lg7.2.1.slg lg7.2.1.cap.1 (by decide) (by decide)).mono ?_; rintro e w8 ⟨A8, c8, rfl, lg8⟩
  have k38 := lg7.1.trans lg8.1 (by simp)
  replace lg3 := lg3.new k38
  replace lgb := lgb.new k38
  clear lg6 lg5 lge hb2 lg7 ho5 hc5 hv5 ho7 hc7 hv7
  go_wp2_with fail
  have F9 := Blk.new w8 5 #[.int .u8 5, .int .u8 1, .int .u8 8, .int .u8 0, .int .u8 0, .int .u8 0, .int .u8 0, .int .u8 0, .int .u8 0, .int .u8 0, .int .u8 0]
  have l9 := OwnG.lit (E := numE .u8) (L := [5, 1, 8, 0, 0, 0, 0, 0, 0, 0, 0]) F9 (by decide)
  refine (ScGet_is (n := 0) (ki := 0) (er := 12) hd_get5 rfl rfl rfl l9.slg (Nat.le_refl _) (by decide) (by decide)).mono ?_; rintro e w10 ⟨A10, c10, rfl, lg10⟩
  have k810 := ((Chg.refl [] w8).alloc _).trans lg10.1 (by simp)
  replace lg3 := lg3.new k810
  replace lgb := lgb.new k810
  replace lg8 := lg8.new k810
  clear F9 l9
  go_wp2_with fail
  have F9 := Blk.new w10 5 #[.int .u8 132, .int .u8 1]
  have l9 := OwnG.lit (E := numE .u8) (L := [132, 1]) F9 (by decide)
  refine (ScGet_is (n := 0) (ki := 0) (er := 12) hd_get132 rfl rfl rfl l9.slg (Nat.le_refl _) (by decide) (by decide)).mono ?_; rintro e w11 ⟨A11, c11, rfl, lg11⟩
  have k1011 := ((Chg.refl [] w10).alloc _).trans lg11.1 (by simp)
  replace lg3 := lg3.new k1011
  replace lgb := lgb.new k1011
  replace lg8 := lg8.new k1011
  clear F9 l9
  have kx : Chg [] w1 w11 := lgb.1
  have hcut : ∀ w, (Instr.slice 23 (.slice A2 30 c2) none (some (.int .i64 3)) none).run Try.prog w = .ok (.slice (cutA A2 c2 0 1) 3 c2) w := fun w => run_upto 23 5 1 Try.underlying23 size8 A2 30 c2 3 (by have := lgb.2.1.cap.1; omega) w
  have hst := run_str (P := Try.prog) (c := c2) (lgb.2.1.slg.cut 0 3 (by decide) (by decide) lgb.2.1.cap.1) (fun e => absurd (lgb.2.1.nil_ (cutA_none e)).1 (by decide)) 23 5 9 Try.underlying23 Try.underlying5 Try.underlying9
  rw [show (hdB.drop 0).take (3 - 0) = hdB.take 3 from rfl, hd_str, show (3 : Nat) - 0 = 3 from rfl, show (numE .u8).k = 1 from rfl] at hst
  have hS1 := ScSame_any A3 (some ⟨g0, 0, none⟩) 3 3 c3 3 hdL hdL w11 lg3.2.1.slg (s1.new kx)
  rw [decide_eq_true (rfl : hdL = hdL)] at hS1
  go_wp2_with fail
  refine hS1.mono ?_; rintro e w12 ⟨rfl, k12⟩
  clear hS1 hst hcut
  have kx2 := kx.trans k12 (by simp)
  replace lg8 := lg8.new k12
  have hS1 := ScSame_any A8 (some ⟨g0, 0, none⟩) 3 3 c8 3 hdL hdL w12 lg8.2.1.slg (s1.new kx2)
  rw [decide_eq_true (rfl : hdL = hdL)] at hS1
  go_wp2_with fail
  refine hS1.mono ?_; rintro e w13 ⟨rfl, k13⟩
  clear hS1
  have kx3 := kx2.trans k13 (by simp)
  have q := fun i u h => (kx3.cell (p := ⟨g0, i, none⟩) g1 (by simp)).trans (q0 i u h)
  have z0 := q 0 _ rfl; have z1 := q 1 _ rfl; have z2 := q 2 _ rfl; have z3 := q 3 _ rfl; have z4 := q 4 _ rfl; have z5 := q 5 _ rfl; have z6 := q 6 _ rfl
  clear q q0
  have hR0 := fun w9 => ScRight_any ⟨4, false, 0, 0, 5, 0, 0⟩ w9
  have hR1 := fun w9 => ScRight_any ⟨4, false, 0, 0, 0, 0, 1⟩ w9
  rw [hd_r0] at hR0
  rw [hd_r1] at hR1
  simp only [Sop.ar] at hR0 hR1
  go_wp2_with fail
  refine (hR0 _).mono ?_; rintro e w14 ⟨rfl, k14⟩
  clear z0 z1 z2 z3 z4 z5 z6
  go_wp2_with fail
  refine (hR1 _).mono ?_; rintro e w15 ⟨rfl, k15⟩
  go_wp2_with fail
  have F9 := Blk.new w15 31 #[.int .i64 9, .bool false, .int .u64 0, .int .u64 0, .int .i64 0, .int .i64 0, .int .i64 0]
  have l9 := OwnG.lit (E := opE) (L := [⟨9, false, 0, 0, 0, 0, 0⟩]) F9 (by decide)
  refine (ScPut_is (n := 0) hd_put9 rfl l9.slg (by intro o ho; simp at ho; subst ho; exact ⟨by decide, by decide⟩) (by decide)).mono ?_; rintro e w16 ⟨A16, c16, rfl, lg16⟩
  go_wp2_with fail
  go_ret
  exact ⟨rfl, ((((k1.trans kx3 (by simp)).trans k14 (by simp)).trans k15 (by simp)).alloc _).trans lg16.1 (by simp)⟩

end Go.Proofs.Ytdmcicgappgiiaa
