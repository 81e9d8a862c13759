/-
  The program's host's machine: the number by which a page is known, the entry of a page at a level.
-/
import Derived.Test.YtfckedecpflldaaMmuS
import Derived.BigQuiet
import Derived.Deep.CutRange
namespace Go.Proofs.Ytfckedecpflldaa
open Go.RowKit

/-- results in a cell as a whole, and in a slot -/
theorem ct_ret {P : Program} {fn : Func} {p q : Tmp} {ty : TypeId} (h : fn.results = #[.cell p ty, .tmp q]) {tmps : Array Value} {w : World} {g : Nat} {t : TypeId} {cs : Array Value} {d : TypeDesc} {v : Value} (hb : Blk w g t cs)
    (hp : tmps.getD p undef = .pointer (some ⟨g, 0, none⟩)) (hq : tmps.getD q undef = v) (hu : P.underlying ty = some d) (hd : (match d with | .struct _ | .array _ _ => true | _ => false) = true) (hi : (P.info? ty).map (·.size) = some cs.size) :
    (results fn tmps).run P w = .ok (.tuple #[.agg cs, v]) w := by
  have hp' : tmps[p]?.getD undef = .pointer (some ⟨g, 0, none⟩) := by simpa using hp
  have hq' : tmps[q]?.getD undef = v := by simpa using hq
  simp [results, h, hp', hq', asAddr, run_loadVar_row w g t ty cs (0, 0) d hb hu hd hi]
theorem set3m {w : World} {g : Nat} {t : TypeId} {x0 x1 x2 y0 y1 y2 : Value} (h : Blk w g t #[x0, x1, x2]) : Blk (((w.setCell ⟨g, 0, none⟩ y0).setCell ⟨g, 1, none⟩ y1).setCell ⟨g, 2, none⟩ y2) g t #[y0, y1, y2] := by
  have := (((h.set_ 0 y0).set_ 1 y1).set_ 2 y2)
  simpa using this
theorem chg3m {S : List Nat} {a w : World} {g : Nat} {y0 y1 y2 : Value} (h : Chg S a w) (hg : g < a.heap.size → g ∈ S) : Chg S a (((w.setCell ⟨g, 0, none⟩ y0).setCell ⟨g, 1, none⟩ y1).setCell ⟨g, 2, none⟩ y2) := (((h.setCell (p := ⟨g, 0, none⟩) hg y0).setCell (p := ⟨g, 1, none⟩) hg y1).setCell (p := ⟨g, 2, none⟩) hg y2)
theorem set7m {w : World} {g : Nat} {t : TypeId} {x0 x1 x2 x3 x4 x5 x6 y0 y1 y2 y3 y4 y5 y6 : Value} (h : Blk w g t #[x0, x1, x2, x3, x4, x5, x6]) : Blk (((((((w.setCell ⟨g, 0, none⟩ y0).setCell ⟨g, 1, none⟩ y1).setCell ⟨g, 2, none⟩ y2).setCell ⟨g, 3, none⟩ y3).setCell ⟨g, 4, none⟩ y4).setCell ⟨g, 5, none⟩ y5).setCell ⟨g, 6, none⟩ y6) g t #[y0, y1, y2, y3, y4, y5, y6] := by
  have := (((((((h.set_ 0 y0).set_ 1 y1).set_ 2 y2).set_ 3 y3).set_ 4 y4).set_ 5 y5).set_ 6 y6)
  simpa using this
theorem chg7m {S : List Nat} {a w : World} {g : Nat} {y0 y1 y2 y3 y4 y5 y6 : Value} (h : Chg S a w) (hg : g < a.heap.size → g ∈ S) : Chg S a (((((((w.setCell ⟨g, 0, none⟩ y0).setCell ⟨g, 1, none⟩ y1).setCell ⟨g, 2, none⟩ y2).setCell ⟨g, 3, none⟩ y3).setCell ⟨g, 4, none⟩ y4).setCell ⟨g, 5, none⟩ y5).setCell ⟨g, 6, none⟩ y6) := (((((((h.setCell (p := ⟨g, 0, none⟩) hg y0).setCell (p := ⟨g, 1, none⟩) hg y1).setCell (p := ⟨g, 2, none⟩) hg y2).setCell (p := ⟨g, 3, none⟩) hg y3).setCell (p := ⟨g, 4, none⟩) hg y4).setCell (p := ⟨g, 5, none⟩) hg y5).setCell (p := ⟨g, 6, none⟩) hg y6)
theorem set9m {w : World} {g : Nat} {t : TypeId} {x0 x1 x2 x3 x4 x5 x6 x7 x8 y0 y1 y2 y3 y4 y5 y6 y7 y8 : Value} (h : Blk w g t #[x0, x1, x2, x3, x4, x5, x6, x7, x8]) : Blk (((((((((w.setCell ⟨g, 0, none⟩ y0).setCell ⟨g, 1, none⟩ y1).setCell ⟨g, 2, none⟩ y2).setCell ⟨g, 3, none⟩ y3).setCell ⟨g, 4, none⟩ y4).setCell ⟨g, 5, none⟩ y5).setCell ⟨g, 6, none⟩ y6).setCell ⟨g, 7, none⟩ y7).setCell ⟨g, 8, none⟩ y8) g t #[y0, y1, y2, y3, y4, y5, y6, y7, y8] := by
  have := (((((((((h.set_ 0 y0).set_ 1 y1).set_ 2 y2).set_ 3 y3).set_ 4 y4).set_ 5 y5).set_ 6 y6).set_ 7 y7).set_ 8 y8)
  simpa using this
theorem chg9m {S : List Nat} {a w : World} {g : Nat} {y0 y1 y2 y3 y4 y5 y6 y7 y8 : Value} (h : Chg S a w) (hg : g < a.heap.size → g ∈ S) : Chg S a (((((((((w.setCell ⟨g, 0, none⟩ y0).setCell ⟨g, 1, none⟩ y1).setCell ⟨g, 2, none⟩ y2).setCell ⟨g, 3, none⟩ y3).setCell ⟨g, 4, none⟩ y4).setCell ⟨g, 5, none⟩ y5).setCell ⟨g, 6, none⟩ y6).setCell ⟨g, 7, none⟩ y7).setCell ⟨g, 8, none⟩ y8) := (((((((((h.setCell (p := ⟨g, 0, none⟩) hg y0).setCell (p := ⟨g, 1, none⟩) hg y1).setCell (p := ⟨g, 2, none⟩) hg y2).setCell (p := ⟨g, 3, none⟩) hg y3).setCell (p := ⟨g, 4, none⟩) hg y4).setCell (p := ⟨g, 5, none⟩) hg y5).setCell (p := ⟨g, 6, none⟩) hg y6).setCell (p := ⟨g, 7, none⟩) hg y7).setCell (p := ⟨g, 8, none⟩) hg y8)
/-- the cells of the host's machine -/
def mmC (t hp : Nat) : Array Value := #[.pointer (some ⟨t, 0, none⟩), .pointer (some ⟨hp, 0, none⟩)]
theorem rd_some {n : Nat} {W : List Int} {f i : Int} : (rdH n W f i).isSome = (hasW n f i && (getE (getW n W f i).toNat).p) := by
  unfold rdH; split <;> simp_all

set_option maxRecDepth 100000 in
set_option maxHeartbeats 1000000 in
theorem Known_any (p : Int) (w : World) : Calls Try.prog 40 #[.int .i64 p] w fun e w' => e = .returned (.int .i64 (p % 512)) ∧ Chg [] w w' := by
  have hJ := fun w' => Join_any p 0 w'
  have hlt : joinN p 0 < 18446744073709551616 := by unfold joinN canonN; split <;> omega
  have hP := fun w' => Page_any (joinN p 0) w' hlt
  rw [join_mod] at hP
  clear hlt
  generalize joinN p 0 = J at *
  generalize p % 512 = m at *
  go_enter Try.func40, Try.ntmps40
  go_wp2_with fail
  refine (hJ _).mono ?_; rintro e w2 ⟨rfl, y2⟩
  go_wp2_with fail
  refine (hP _).mono ?_; rintro e w3 ⟨rfl, y3⟩
  go_wp2_with fail
  go_ret
  exact ⟨rfl, y2.chg.trans y3.chg (by simp)⟩

set_option maxRecDepth 100000 in
set_option maxHeartbeats 8000000 in
theorem Entry_any {m hp hb t n : Nat} {W : List Int} (f page lev : Int) (w : World) (hl1 : 1 ≤ lev) (hl3 : lev ≤ 3) (hB : Blk w m 85 (mmC t hp)) (hM : MemAt w hp hb n W) (hW : WdW W) :
    Calls Try.prog 50 #[.pointer (some ⟨m, 0, none⟩), .int .i64 f, .int .i64 page, .int .i64 lev] w fun e w' => e = .returned (.tuple #[.agg (getE (getW n W f (idxI page lev)).toNat).cs, .bool (rdH n W f (idxI page lev)).isSome]) ∧ Chg [] w w' := by
  have H0 := (SepC.nil w).alloc #[.bool false, .bool false, .bool false, .bool false, .bool false, .bool false, .bool false, .bool false, .int .i64 0] 98
  have y0 := H0.1
  have hz : w.heap.size < w.heap.size + 1 := by omega
  have hB' := y0.blk hB (by simp)
  have hM' := hM.chg y0 (by simp) (by simp)
  have c1 := hB'.cell 1
  unfold mmC at c1
  simp only [List.getElem?_toArray, List.getElem?_cons_zero, List.getElem?_cons_succ] at c1
  obtain ⟨hgv, hgl⟩ := hW.nat_ n f (idxI page lev)
  rw [rd_some]
  generalize hw1 : w.alloc (.cells #[.bool false, .bool false, .bool false, .bool false, .bool false, .bool false, .bool false, .bool false, .int .i64 0] 98) = w1 at *
  have HI := fun nq : Cls w1 => (Idx_any page lev nq.val (by omega) (by omega)).mono fun _ _ ⟨h1, h2⟩ => (⟨h1, h2.chg⟩ : _ ∧ Chg [] nq.val _)
  have HG : ∀ nq : Cls w1, Calls Try.prog 35 #[.pointer (some ⟨hp, 0, none⟩), .int .i64 f, .int .i64 (idxI page lev)] nq.val fun e w' => e = .returned (.tuple #[.int .u64 (getW n W f (idxI page lev)), .bool (hasW n f (idxI page lev))]) ∧ Chg [] nq.val w' := fun nq => (Get_at hp hb n W f (idxI page lev) nq.val (hM'.chg nq.ok (by simp) (by simp))).mono fun _ _ ⟨h1, h2⟩ => ⟨h1, by subst h2; exact Chg.refl _ _⟩
  have HE := fun w' => Get_any (getW n W f (idxI page lev)).toNat w' hgl
  rw [← hgv] at HG
  clear hgv hgl
  generalize (getW n W f (idxI page lev)).toNat = v at *
  generalize hasW n f (idxI page lev) = is at *
  generalize idxI page lev = ix at *
  generalize getE v = ent at *
  obtain ⟨ep, ew, eu, ea, ed, es, en, eb, ef⟩ := ent
  simp only [Ent.cs] at HE ⊢
  have K1 := fun nq : Cls w1 => nq.cell c1
  clear c1 hM' hB' hM hB
  replace hw1 := Lib.hid hw1
  go_enter Try.func50, Try.ntmps50
  go_upto_region 1 with fail
  (try rw [hw1.out])
  refine wp_region_cls (by kernel_rfl) (by kernel_rfl) ?_
  repeat (go_big_quiet_step (first | (go_at_call 72; with_reducible exact Calls.cls (HI _)) | (go_at_call 35; with_reducible exact Calls.cls (HG _))))
  refine wpQuiet_nil ?_
  rintro _ ⟨nq, rfl⟩
  have H1 := H0.new nq.ok
  clear H0 HI HG K1 y0
  generalize nq.val = w4 at *
  clear nq
  go_wp2_with fail
  refine (HE _).mono ?_; rintro e w5 ⟨rfl, y5⟩
  clear HE
  have hgl := (H1.new y5).blk.lt
  have H2 := (H1.new y5).alloc #[.bool ep, .bool ew, .bool eu, .bool ea, .bool ed, .bool es, .bool en, .bool eb, .int .i64 ef] 98
  clear H1 y5
  go_upto_region 3 with fail
  generalize w5.alloc (.cells #[.bool ep, .bool ew, .bool eu, .bool ea, .bool ed, .bool es, .bool en, .bool eb, .int .i64 ef] 98) = w6 at *
  generalize w5.heap.size = ge at *
  clear w5 w4 hw1 w1
  have be := H2.blk
  have bz := (H2.pick 1 rfl).blk
  generalize hgz : w.heap.size = gz at *
  have hn1 : ¬ ge = gz := by omega
  have hn2 : ¬ gz = ge := by omega
  have e0 := be.cell 0; have e1 := be.cell 1; have e2 := be.cell 2; have e3 := be.cell 3; have e4 := be.cell 4; have e5 := be.cell 5; have e6 := be.cell 6; have e7 := be.cell 7; have e8 := be.cell 8
  simp only [List.getElem?_toArray, List.getElem?_cons_zero, List.getElem?_cons_succ] at e0 e1 e2 e3 e4 e5 e6 e7 e8
  have z0 := bz.cell 0; have z1 := bz.cell 1; have z2 := bz.cell 2; have z3 := bz.cell 3; have z4 := bz.cell 4; have z5 := bz.cell 5; have z6 := bz.cell 6; have z7 := bz.cell 7; have z8 := bz.cell 8
  simp only [List.getElem?_toArray, List.getElem?_cons_zero, List.getElem?_cons_succ] at z0 z1 z2 z3 z4 z5 z6 z7 z8
  have f0 := bz.frozen 0; have f1 := bz.frozen 1; have f2 := bz.frozen 2; have f3 := bz.frozen 3; have f4 := bz.frozen 4; have f5 := bz.frozen 5; have f6 := bz.frozen 6; have f7 := bz.frozen 7; have f8 := bz.frozen 8
  have hy := H2.1
  skip
  cases is
  · go_region
    go_wp2_with fail
    exact bodyPost_ret (ct_ret rfl ((set9m bz (y0 := .bool ep) (y1 := .bool ew) (y2 := .bool eu) (y3 := .bool ea) (y4 := .bool ed) (y5 := .bool es) (y6 := .bool en) (y7 := .bool eb) (y8 := .int .i64 ef)).drew) rfl rfl Try.underlying98 rfl (by kernel_rfl)) rfl ⟨rfl, (chg9m hy (fun h => absurd h (by omega))).drew⟩
  · go_region
    go_wp2_with fail
    exact bodyPost_ret (ct_ret rfl ((set9m bz (y0 := .bool ep) (y1 := .bool ew) (y2 := .bool eu) (y3 := .bool ea) (y4 := .bool ed) (y5 := .bool es) (y6 := .bool en) (y7 := .bool eb) (y8 := .int .i64 ef)).drew) rfl rfl Try.underlying98 rfl (by kernel_rfl)) rfl ⟨rfl, (chg9m hy (fun h => absurd h (by omega))).drew⟩

end Go.Proofs.Ytfckedecpflldaa
