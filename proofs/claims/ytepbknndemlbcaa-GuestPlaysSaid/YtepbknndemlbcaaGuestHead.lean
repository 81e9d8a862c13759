/-
  The live question 'head' of the laws of guest.
-/
import Derived.Test.YtepbknndemlbcaaGuestR
import Derived.Test.YtepbknndemlbcaaGreat07
namespace Go.Proofs.Ytepbknndemlbcaa
open Go.RowKit Go.Maps

def gL : List Int := [5, 2]
def gW : List Int := setG 8 (zeros (8 * 8)) gL 1 3 9
theorem gL_ok : OkL gL 8 := ⟨by decide, by decide, by decide, by decide, by decide, by decide⟩
theorem g_set1 : setG 8 gW gL 2 3 9 = gW := by decide
theorem g_set2 : setG 8 gW gL 0 8 9 = gW := by decide
theorem g_get : getG 8 gW gL 1 3 = 9 := by decide
theorem g_get2 : getW 8 gW 2 3 = 9 := by decide
theorem g_all : (allG gW gL).getD 11 0 = 9 := by decide

theorem GuSet_is (q : Nat) (S : List Nat) (p : Nat) (L : List Int) (h b n : Nat) (W : List Int) (f i v : Int) (t : Bool) (W' : List Int) (w : World) (g : GuIn w q S p L h b n W) (ht : hasG n L f i = t) (hW : setG n W L f i v = W') :
    Calls Try.prog 23 #[.pointer (some ⟨q, 0, none⟩), .int .i64 f, .int .i64 i, .int .u64 v] w fun e w' => e = .returned (.bool t) ∧ Chg [b] w w' ∧ GuIn w' q S p L h b n W' := ht ▸ hW ▸ GuSet_at q S p L h b n W f i v w g
theorem GuGet_is (q : Nat) (S : List Nat) (p : Nat) (L : List Int) (h b n : Nat) (W : List Int) (f i : Int) (x : Int) (t : Bool) (w : World) (g : GuIn w q S p L h b n W) (hx : getG n W L f i = x) (ht : hasG n L f i = t) :
    Calls Try.prog 19 #[.pointer (some ⟨q, 0, none⟩), .int .i64 f, .int .i64 i] w fun e w' => e = .returned (.tuple #[.int .u64 x, .bool t]) ∧ w = w' := hx ▸ ht ▸ GuGet_at q S p L h b n W f i w g
theorem Get_is (p b n : Nat) (L : List Int) (f i : Int) (x : Int) (t : Bool) (w : World) (h : MemAt w p b n L) (hx : getW n L f i = x) (ht : hasW n f i = t) :
    Calls Try.prog 33 #[.pointer (some ⟨p, 0, none⟩), .int .i64 f, .int .i64 i] w fun e w' => e = .returned (.tuple #[.int .u64 x, .bool t]) ∧ w = w' := hx ▸ ht ▸ Get_at p b n L f i w h

/-- the first so many of a slice of words -/
theorem run_first {P : Program} (t e : TypeId) (ht : P.underlying t = some (.slice e)) (hz : ∀ w, (Go.sizeOf e).run P w = .ok 1 w) (b len cap h : Nat) (h0 : 0 < cap) (h2 : h ≤ cap) (w : World) :
    (Instr.slice t (.slice (some ⟨b, 0, none⟩) len cap) none (some (.int .i64 h)) none).run P w = .ok (.slice (some ⟨b, 0, none⟩) h cap) w := by
  have hel : P.elem t = e := by simp [Program.elem, ht]
  rw [run_slice_h w t (some ⟨b, 0, none⟩) len cap (hel.symm ▸ ht) .i64 h (by omega) (by omega), hel, hz]
  simp [Result.andThen, sliced, show ¬ cap = 0 by omega, add_at]

set_option maxRecDepth 100000 in
set_option maxHeartbeats 4000000 in
theorem Guhead_any (w : World) : Calls Try.prog 9 #[] w fun e w' => e = .returned (.bool true) ∧ Chg [] w w' := by
  have hmk : ∀ w : World, (Instr.makeSlice 39 (.int .i64 16) (.int .i64 16)).run Try.prog w = .ok (.slice (some ⟨w.heap.size, 0, none⟩) 16 16) (w.alloc (.cells (u64s (zeros 16)) 38)) := fun w => make_u64s 16 (by omega) w
  go_enter Try.func9, Try.ntmps9
  go_wp2_with fail
  refine (New_at 8 _ (by omega) (by omega)).mono ?_; rintro e w1 ⟨h, b, rfl, hc1, hm1, hh, hb⟩
  go_wp2_with fail
  refine (GNew_ok _ 2 2 gL 8 _ (slk2 w1 _ 5 2 (by decide) (by decide)) gL_ok).mono ?_; rintro e w2 ⟨p, S, rfl, hc2, h2, hS⟩
  have hca : Chg [] w1 w2 := ((Chg.refl [] w1).alloc _).trans hc2 (by simp)
  have hm2 := hm1.chg hca (by simp) (by simp)
  have hcb : Chg [] w w2 := hc1.trans hca (by simp)
  clear hc1 hc2 hS hca hm1
  go_wp2_with fail
  refine (GuNew_at p h _).mono ?_; rintro e w3 ⟨q, rfl, hc3, h3, hq⟩
  have g3 : GuIn w3 q S p gL h b 8 (zeros (8 * 8)) := ⟨h3, h2.self hc3, hm2.chg hc3 (by simp) (by simp), gL_ok.inh⟩
  have hcc : Chg [] w w3 := hcb.trans hc3 (by simp)
  clear hcb hc3 h3 h2 hm2
  go_wp2_with fail
  refine (GuSet_is q S p gL h b 8 _ 1 3 9 true gW _ g3 (by decide) rfl).mono ?_; rintro e w4 ⟨rfl, hc4, g4⟩
  have hcd : Chg [] w w4 := hcc.trans hc4 (by intro i hi hm; simp at hm; omega)
  clear hcc hc4 g3
  go_wp2_with fail
  refine (GuSet_is q S p gL h b 8 _ 2 3 9 false gW _ g4 (by decide) g_set1).mono ?_; rintro e w5 ⟨rfl, hc5, g5⟩
  have hce : Chg [] w w5 := hcd.trans hc5 (by intro i hi hm; simp at hm; omega)
  clear hcd hc5 g4
  go_wp2_with fail
  refine (GuSet_is q S p gL h b 8 _ 0 8 9 false gW _ g5 (by decide) g_set2).mono ?_; rintro e w6 ⟨rfl, hc6, g6⟩
  have hcf : Chg [] w w6 := hce.trans hc6 (by intro i hi hm; simp at hm; omega)
  clear hce hc6 g5
  go_wp2_with fail
  refine (GuGet_is q S p gL h b 8 _ 1 3 9 true _ g6 g_get (by decide)).mono ?_; rintro e w' ⟨rfl, rfl⟩
  go_wp2_with fail
  refine (Get_is h b 8 _ 2 3 9 true _ g6.hm g_get2 (by decide)).mono ?_; rintro e w' ⟨rfl, rfl⟩
  go_wp2_with fail
  refine (GuAll_at q S p gL h b 8 _ _ g6).mono ?_; rintro e w7 ⟨A, c, rfl, hc7, ho7, hlow⟩
  have g7 := g6.self hc7
  have hcg : Chg [] w w7 := hcf.trans hc7 (by simp)
  obtain ⟨gb, c', he, hcc1, hcc2⟩ := ho7.pos_ (by rw [allG_len]; decide)
  injection he with he1 he2 he3; subst he1; subst he3
  have hc16 : 16 ≤ c := hcc1
  clear he2 hcc1
  have d := ho7.cell 11 (by rw [allG_len]; decide)
  rw [g_all] at d
  have hsl : ∀ w : World, (Instr.slice 39 (.slice (some ⟨gb, 0, none⟩) 16 c) none (some (.int .i64 15)) none).run Try.prog w = .ok (.slice (some ⟨gb, 0, none⟩) 15 c) w := fun w =>
    run_first (P := Try.prog) 39 38 Try.underlying39 sizeU gb 16 c 15 (by omega) (by omega) w
  clear hcf hc7 ho7 hlow g6
  rw [show 8 * gL.length = 16 from rfl] at *
  go_wp2_with fail
  refine (GuLoad_no q S p gL h b 8 _ _ 15 c _ g7 (by omega) (by decide)).mono ?_; rintro e w' ⟨rfl, rfl⟩
  go_wp2_with fail
  have hs8 := SlU.of_blk (Blk.new w7 38 (u64s (zeros 16))) (zeros_len 16)
  have g8 := g7.self ((Chg.refl [] w7).alloc (.cells (u64s (zeros 16)) 38))
  have hch : Chg [] w (w7.alloc (.cells (u64s (zeros 16)) 38)) := hcg.alloc _
  have hb7 := g7.hm.ws.lt
  refine (GuLoad_at q S p gL h b 8 _ _ 16 16 _ _ g8 hs8 (by omega) (by omega) (by intro _ g o e; injection e with e; injection e with e _; omega)).mono ?_; rintro e w9 ⟨rfl, hc9, g9⟩
  have hci : Chg [] w w9 := hch.trans hc9 (by intro i hi hm; simp at hm; omega)
  clear hch hc9 g8 hs8 g7
  rw [show loadB gL 16 = true from rfl]
  go_wp2_with fail
  refine (GuFrames_at q S p gL h b 8 _ _ g9).mono ?_; rintro e w' ⟨rfl, rfl⟩
  rw [show gL.length = 2 from rfl]
  go_wp2_with fail
  go_ret
  exact ⟨rfl, hci⟩

end Go.Proofs.Ytepbknndemlbcaa
