/-
  The program's host's machine: told: the hit of what a walk tells.
-/
import Derived.Test.YtfckedecpflldaaMmuW
namespace Go.Proofs.Ytfckedecpflldaa
open Go.RowKit

set_option maxRecDepth 100000 in
set_option maxHeartbeats 8000000 in
theorem Told_any {m hp hb t n : Nat} {W : List Int} (root asid page : Int) (w : World) (hB : Blk w m 85 (mmC t hp)) (hM : MemAt w hp hb n W) (hW : WdW W) :
    Calls Try.prog 41 #[.pointer (some ⟨m, 0, none⟩), .int .i64 root, .int .i64 asid, .int .i64 page] w fun e w' => e = .returned (.tuple #[(hitH asid page (walkF n W root page) (walkR n W root page)).v, .bool (walkH n W root page).isSome]) ∧ Chg [] w w' := by
  have H0 := (SepC.nil w).alloc #[.int .i64 0, .int .i64 0, .int .i64 0, .bool false, .bool false, .bool false, .bool false] 61
  have y0 := H0.1
  have hK := Walk_any root page _ (y0.blk hB (by simp)) (hM.chg y0 (by simp) (by simp)) hW
  clear hB hM
  generalize walkF n W root page = f at *
  generalize (walkH n W root page).isSome = is at *
  generalize walkR n W root page = rg at *
  obtain ⟨rw_, ru, rx⟩ := rg
  simp only [Rg.cs] at hK
  simp only [hitH, Ht.v]
  generalize hw1 : w.alloc (.cells #[.int .i64 0, .int .i64 0, .int .i64 0, .bool false, .bool false, .bool false, .bool false] 61) = w1 at *
  generalize hgz : w.heap.size = gz at *
  replace hw1 := Lib.hid hw1
  replace hgz := Lib.hid hgz
  go_enter Try.func41, Try.ntmps41
  go_wp2_with fail
  (try rw [hw1.out])
  refine hK.mono ?_; rintro e w2 ⟨rfl, y2⟩
  clear hK
  have H2 := (H0.new y2).alloc #[.bool rw_, .bool ru, .bool rx] 47
  clear H0 y2
  go_upto_region 2 with fail
  (try rw [hgz.out])
  generalize w2.alloc (.cells #[.bool rw_, .bool ru, .bool rx] 47) = w3 at *
  generalize w2.heap.size = gr at *
  clear w2
  have br := H2.blk
  obtain ⟨⟨p0, p1, p2⟩, _⟩ := blk3f br
  have bz := (H2.pick 1 rfl).blk
  have z0 := bz.cell 0; have z1 := bz.cell 1; have z2 := bz.cell 2; have z3 := bz.cell 3; have z4 := bz.cell 4; have z5 := bz.cell 5; have z6 := bz.cell 6
  simp only [List.getElem?_toArray, List.getElem?_cons_zero, List.getElem?_cons_succ] at z0 z1 z2 z3 z4 z5 z6
  have f0 := bz.frozen 0; have f1 := bz.frozen 1; have f2 := bz.frozen 2; have f3 := bz.frozen 3; have f4 := bz.frozen 4; have f5 := bz.frozen 5; have f6 := bz.frozen 6
  go_wp2_with fail
  exact bodyPost_ret (ct_ret rfl (set7m (y0 := .int .i64 asid) (y1 := .int .i64 page) (y2 := .int .i64 f) (y3 := .bool rw_) (y4 := .bool ru) (y5 := .bool rx) (y6 := .bool false) bz) rfl rfl Try.underlying61 rfl (by kernel_rfl)) rfl ⟨rfl, chg7m H2.1 (fun h => absurd h (by have := hgz.out; omega))⟩

end Go.Proofs.Ytfckedecpflldaa
