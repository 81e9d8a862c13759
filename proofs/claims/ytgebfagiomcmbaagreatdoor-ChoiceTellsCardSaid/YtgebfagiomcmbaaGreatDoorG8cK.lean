/-
  WalkF, WalkG, WalkH, WalkHead, WalkK in one text.
-/
import Derived.Test.YtgebfagiomcmbaaGreatDoorG8bK
import Derived.Test.YtgebfagiomcmbaaGreatDoorG8aK
import Derived.Test.YtgebfagiomcmbaaGreatDoorG3K
import Derived.Test.YtgebfagiomcmbaaGreatDoorG4K
import Derived.Test.YtgebfagiomcmbaaGreatDoorG1K
import Derived.BigQuiet
import Derived.StillTailTactics
import Derived.Maps.Ext
namespace Go.Proofs.YtgebfagiomcmbaaGreatDoor
open Go.RowKit Go.Maps


set_option maxRecDepth 100000 in
set_option maxHeartbeats 8000000 in
theorem granted_acc (q : Nat) (S : List Nat) (p : Nat) (L : List Int) (h b n : Nat) (W : List Int) (page kind root : Int) (user : Bool) (w : World) (gu : GuIn w q S p L h b n W) (hW : WdW W) :
    Calls Tryz.prog 107 #[.agg #[.pointer (some ⟨q, 0, none⟩), .int .i64 page, .int .i64 kind, .bool user], .int .i64 root] w (PathR w.heap.size kind user w (grantP L.length kind user (pathP (rdG n W L) page root))) := by
  have hA0 := (Blk.new w 171 #[.pointer (some ⟨q, 0, none⟩), .int .i64 page, .int .i64 kind, .bool user]).alloc (.cells #[.slice none 0 0, .int .i64 0, .bool false, .bool false, .bool false, .bool false, .bool false] 108)
  have hR0 := Blk.new (w.alloc (.cells #[.pointer (some ⟨q, 0, none⟩), .int .i64 page, .int .i64 kind, .bool user] 171)) 108 #[.slice none 0 0, .int .i64 0, .bool false, .bool false, .bool false, .bool false, .bool false]
  rw [World.size_alloc] at hR0
  have hc0 := ((Chg.refl [] w).alloc (.cells #[.pointer (some ⟨q, 0, none⟩), .int .i64 page, .int .i64 kind, .bool user] 171)).alloc (.cells #[.slice none 0 0, .int .i64 0, .bool false, .bool false, .bool false, .bool false, .bool false] 108)
  have a0 := hA0.cell 0; have a1 := hA0.cell 1; have a2 := hA0.cell 2; have a3 := hA0.cell 3
  simp only [List.getElem?_toArray, List.getElem?_cons_zero, List.getElem?_cons_succ] at a0 a1 a2 a3
  have gu0 := gu.self hc0
  have hpath := path_acc q S p L h b n W page kind root user _ gu0 hW
  have hsz : w.heap.size ≤ ((w.alloc (.cells #[.pointer (some ⟨q, 0, none⟩), .int .i64 page, .int .i64 kind, .bool user] 171)).alloc (.cells #[.slice none 0 0, .int .i64 0, .bool false, .bool false, .bool false, .bool false, .bool false] 108)).heap.size := hc0.size
  have hF3 : ∀ w0 : World, Calls Tryz.prog 122 #[.agg #[.pointer (some ⟨q, 0, none⟩), .int .i64 page, .int .i64 kind, .bool user], .bool true, .bool false] w0 fun e w' => e = .returned (errO kind user (some 3)) ∧ Chg [] w0 w' := fun w0 => fault_any q page kind user true false 3 w0 rfl
  have HF3 : Hid (errO kind user (some 3) = errO kind user (some 3)) := Lib.hid rfl
  generalize hf3 : errO kind user (some 3) = f3 at hF3 HF3
  clear HF3
  have HF3 : Hid (f3 = errO kind user (some 3)) := Lib.hid hf3.symm
  clear hf3
  generalize pathP (rdG n W L) page root = R at *
  go_enter Tryz.func107, Tryz.ntmps107
  go_wp2_with fail
  generalize (w.alloc (.cells #[.pointer (some ⟨q, 0, none⟩), .int .i64 page, .int .i64 kind, .bool user] 171)).alloc (.cells #[.slice none 0 0, .int .i64 0, .bool false, .bool false, .bool false, .bool false, .bool false] 108) = w1 at *
  generalize hmm : w.heap.size = m at *
  refine hpath.mono ?_
  rintro e w2 hPR
  cases R with
  | error t =>
    obtain ⟨rfl, hc2⟩ := hPR
    have hR2 := (hR0.chg_ hc2 (by simp)).alloc (.cells (pathV none 0 Pa.zero) 108)
    have hc3 := (hc0.trans hc2 (by simp)).alloc (.cells (pathV none 0 Pa.zero) 108)
    simp only [pathV, Pa.zero, List.length_nil, errO, stopV] at hR2 hc3 ⊢
    obtain ⟨r0, r1, r2, r3, r4, r5, r6, q0, q1, q2, q3, q4, q5, q6⟩ := blk7 hR2
    go_wp2_with fail
    refine bodyPost_ret (cell_tmp_ret rfl (set7 hR2) rfl Tryz.underlying108 rfl (by kernel_rfl)) rfl ?_
    exact ⟨rfl, chg7 hc3 (by omega)⟩
  | ok P =>
    obtain ⟨A, c, rfl, hrow, hc2⟩ := hPR
    have hrow2 := own_weak hrow hsz
    clear hrow hpath gu
    have hg0 : grantP L.length kind user (.ok P) = if mayB P.r kind user then (if P.g ≥ L.length then .error 0 else .ok P) else .error 3 := rfl
    obtain ⟨pats, pg, ⟨prw, pru, prx⟩, plg, pdy⟩ := P
    simp only [pathV] at hrow2 hg0 ⊢
    have hMay := fun w0 => May_any ⟨prw, pru, prx⟩ kind user w0
    simp only [Rg.cs] at hMay
    generalize mayB ⟨prw, pru, prx⟩ kind user = tb at *
    have HG := Lib.hid hg0
    clear hg0
    have hP3 := Blk.new w2 108 #[.slice A pats.length c, .int .i64 pg, .bool prw, .bool pru, .bool prx, .bool plg, .bool pdy]
    have hA3 := (hA0.chg_ hc2 (by simp)).alloc (.cells #[.slice A pats.length c, .int .i64 pg, .bool prw, .bool pru, .bool prx, .bool plg, .bool pdy] 108)
    have hR3 := (hR0.chg_ hc2 (by simp)).alloc (.cells #[.slice A pats.length c, .int .i64 pg, .bool prw, .bool pru, .bool prx, .bool plg, .bool pdy] 108)
    have gu3 := (gu0.self hc2).self ((Chg.refl [] w2).alloc (.cells #[.slice A pats.length c, .int .i64 pg, .bool prw, .bool pru, .bool prx, .bool plg, .bool pdy] 108))
    have hc3 := (hc0.trans hc2 (by simp)).alloc (.cells #[.slice A pats.length c, .int .i64 pg, .bool prw, .bool pru, .bool prx, .bool plg, .bool pdy] 108)
    have hrow3 := own_chg hrow2 ((Chg.refl [] w2).alloc (.cells #[.slice A pats.length c, .int .i64 pg, .bool prw, .bool pru, .bool prx, .bool plg, .bool pdy] 108)) (by simp)
    clear hA0 hR0 gu0 hc0 hc2 hrow2 a0 a1 a2 a3 hsz
    have a0 := hA3.cell 0; have a1 := hA3.cell 1; have a2 := hA3.cell 2; have a3 := hA3.cell 3
    simp only [List.getElem?_toArray, List.getElem?_cons_zero, List.getElem?_cons_succ] at a0 a1 a2 a3
    obtain ⟨p0_, p1_, p2_, p3_, p4_, p5_, p6_, _, _, _, _, _, _, _⟩ := blk7 hP3
    go_wp2_with fail
    generalize w2.alloc (.cells #[.slice A pats.length c, .int .i64 pg, .bool prw, .bool pru, .bool prx, .bool plg, .bool pdy] 108) = w3 at *
    generalize w2.heap.size = pb at *
    refine (hMay _).mono ?_; rintro e w4 ⟨rfl, k4⟩
    have hP4 := hP3.chg_ k4 (by simp); have hA4 := hA3.chg_ k4 (by simp); have hR4 := hR3.chg_ k4 (by simp); have gu4 := gu3.self k4; have hc4 := hc3.trans k4 (by simp); have hrow4 := own_chg hrow3 k4 (by simp)
    clear hP3 hA3 hR3 gu3 hc3 hrow3 k4 a0 a1 a2 a3 p0_ p1_ p2_ p3_ p4_ p5_ p6_ hMay
    have a0 := hA4.cell 0; have a1 := hA4.cell 1; have a2 := hA4.cell 2; have a3 := hA4.cell 3
    simp only [List.getElem?_toArray, List.getElem?_cons_zero, List.getElem?_cons_succ] at a0 a1 a2 a3
    cases tb with
    | false =>
      have HG3 : Hid (grantP L.length kind user (.ok ⟨pats, pg, ⟨prw, pru, prx⟩, plg, pdy⟩) = .error 3) := Lib.hid (by rw [HG.out]; rfl)
      clear HG
      go_wp2_with fail
      refine (hF3 _).mono ?_; rintro e w5 ⟨rfl, k5⟩
      have hR5 := hR4.chg_ k5 (by simp)
      obtain ⟨r0, r1, r2, r3, r4, r5, r6, q0, q1, q2, q3, q4, q5, q6⟩ := blk7 hR5
      go_wp2_with fail
      refine bodyPost_ret (cell_tmp_ret rfl (set7 hR5) rfl Tryz.underlying108 rfl (by kernel_rfl)) rfl ?_
      rw [HG3.out]
      exact ⟨by rw [HF3.out]; rfl, chg7 (hc4.trans k5 (by simp)) (by omega)⟩
    | true =>
      have p1_ := hP4.cell 1
      simp only [List.getElem?_toArray, List.getElem?_cons_zero, List.getElem?_cons_succ] at p1_
      have hll := gu4.ok
      have k0 := fun nq : Cls w4 => nq.cell p1_
      have k1 := fun nq : Cls w4 => nq.cell a0
      have D1 : ∀ nq : Cls w4, Calls Tryz.prog 70 #[.pointer (some ⟨q, 0, none⟩)] nq.val fun e w' => e = .returned (.int .i64 L.length) ∧ Chg [] nq.val w' := fun nq => (GuFrames_at q S p L h b n W nq.val (gu4.self nq.ok)).mono fun e w' hh => ⟨hh.1, hh.2 ▸ Chg.refl [] _⟩
      clear hll
      by_cases hge : pg ≥ (L.length : Int)
      · have HG0 : Hid (grantP L.length kind user (.ok ⟨pats, pg, ⟨prw, pru, prx⟩, plg, pdy⟩) = .error 0) := Lib.hid (by rw [HG.out, if_pos rfl, if_pos hge])
        clear HG
        go_wp2_with fail
        refine wp_region_cls (by kernel_rfl) (by kernel_rfl) ?_
        repeat (go_big_quiet_step (first | (go_at_call 70; with_reducible exact Calls.cls (D1 _))))
        refine wpQuiet_nil ?_
        rintro _ ⟨nq, rfl⟩
        have hR5 := nq.blk hR4
        have hc5 := hc4.trans nq.ok (by simp)
        obtain ⟨r0, r1, r2, r3, r4, r5, r6, q0, q1, q2, q3, q4, q5, q6⟩ := blk7 hR5
        go_wp2_with fail
        refine bodyPost_ret (cell_tmp_ret rfl (set7 hR5) rfl Tryz.underlying108 rfl (by kernel_rfl)) rfl ?_
        rw [HG0.out]
        exact ⟨rfl, chg7 hc5 (by omega)⟩
      · have HG0 : Hid (grantP L.length kind user (.ok ⟨pats, pg, ⟨prw, pru, prx⟩, plg, pdy⟩) = .ok ⟨pats, pg, ⟨prw, pru, prx⟩, plg, pdy⟩) := Lib.hid (by rw [HG.out, if_pos rfl, if_neg hge])
        clear HG
        go_wp2_with fail
        refine wp_region_cls (by kernel_rfl) (by kernel_rfl) ?_
        repeat (go_big_quiet_step (first | (go_at_call 70; with_reducible exact Calls.cls (D1 _))))
        refine wpQuiet_nil ?_
        rintro _ ⟨nq, rfl⟩
        have hR5 := nq.blk hR4
        have hP5 := nq.blk hP4
        have hc5 := hc4.trans nq.ok (by simp)
        have hrow5 := own_chg hrow4 nq.ok (by simp)
        obtain ⟨r0, r1, r2, r3, r4, r5, r6, q0, q1, q2, q3, q4, q5, q6⟩ := blk7 hR5
        obtain ⟨p0_, p1b_, p2_, p3_, p4_, p5_, p6_, _, _, _, _, _, _, _⟩ := blk7 hP5
        go_wp2_with fail
        refine bodyPost_ret (cell_tmp_ret rfl (set7 hR5) rfl Tryz.underlying108 rfl (by kernel_rfl)) rfl ?_
        rw [HG0.out]
        refine ⟨A, c, rfl, own_chg hrow5 (chg7 (Chg.refl [m + 1] _) (by simp)) (fun g hg hi => ?_), chg7 hc5 (by omega)⟩
        obtain ⟨cs, hb⟩ := own_cells hrow5 g (by simp [hg])
        simp at hi; subst hi
        exact Blk.type_ne hb hR5 (by decide) rfl

/-- what Walk hands back -/
def WalkR (w : World) (r : Pa × Int × Int) (e : Ending) (w' : World) : Prop :=
  ∃ A c, e = .returned (.tuple #[.agg (pathV A c r.1), .int .i64 r.2.1, .int .i64 r.2.2]) ∧ w'.ownsRow w.heap.size 158 2 (.slice A r.1.ats.length c) r.1.ats.length (flatA r.1.ats) ∧ Chg [] w w'

theorem cell_tmps_ret {P : Program} {fn : Func} {p q r : Tmp} {ty : TypeId} (h : fn.results = #[.cell p ty, .tmp q, .tmp r]) {tmps : Array Value} {w : World} {g : Nat} {t : TypeId} {cs : Array Value} {d : TypeDesc} (hb : Blk w g t cs)
    (hp : tmps.getD p undef = .pointer (some ⟨g, 0, none⟩)) (hu : P.underlying ty = some d) (hd : (match d with | .struct _ | .array _ _ => true | _ => false) = true) (hi : (P.info? ty).map (·.size) = some cs.size) :
    (results fn tmps).run P w = .ok (.tuple #[.agg cs, tmps.getD q undef, tmps.getD r undef]) w := by
  have hp' : tmps[p]?.getD undef = .pointer (some ⟨g, 0, none⟩) := by simpa using hp
  simp [results, h, hp', asAddr, run_loadVar_row w g t ty cs (0, 0) d hb hu hd hi, Result.andThen]

set_option maxRecDepth 100000 in
set_option maxHeartbeats 8000000 in
theorem Walk_at (q : Nat) (S : List Nat) (p : Nat) (L : List Int) (h b n : Nat) (W : List Int) (root page kind : Int) (user : Bool) (w : World) (hE : ErrIn w) (gu : GuIn w q S p L h b n W) (hW : WdW W) :
    Calls Tryz.prog 77 #[.pointer (some ⟨q, 0, none⟩), .int .i64 root, .int .i64 page, .int .i64 kind, .bool user] w (WalkR w (walkP n W L root page kind user)) := by
  have hR0 := Blk.new w 108 #[.slice none 0 0, .int .i64 0, .bool false, .bool false, .bool false, .bool false, .bool false]
  have hc0 := (Chg.refl [] w).alloc (.cells #[.slice none 0 0, .int .i64 0, .bool false, .bool false, .bool false, .bool false, .bool false] 108)
  have hgr := granted_acc q S p L h b n W page kind root user _ (gu.self hc0) hW
  have HWP : Hid (walkP n W L root page kind user = outP kind user (grantP L.length kind user (pathP (rdG n W L) page root))) := Lib.hid rfl
  generalize grantP L.length kind user (pathP (rdG n W L) page root) = R at *
  have hsz : w.heap.size ≤ (w.alloc (.cells #[.slice none 0 0, .int .i64 0, .bool false, .bool false, .bool false, .bool false, .bool false] 108)).heap.size := hc0.size
  have hE0 : ErrIn (w.alloc (.cells #[.slice none 0 0, .int .i64 0, .bool false, .bool false, .bool false, .bool false, .bool false] 108)) := (hc0.cell (World.block_lt_of_cell? _ _ hE) (by simp)).trans hE
  go_enter Tryz.func77, Tryz.ntmps77
  go_wp2_with fail
  generalize w.alloc (.cells #[.slice none 0 0, .int .i64 0, .bool false, .bool false, .bool false, .bool false, .bool false] 108) = w1 at *
  have HM : Hid (w.heap.size = w.heap.size) := Lib.hid rfl
  generalize hmm : w.heap.size = m at *
  refine hgr.mono ?_
  rintro e w2 hPR
  cases R with
  | error t =>
    obtain ⟨rfl, hc2⟩ := hPR
    have hR3 := ((hR0.chg_ hc2 (by simp)).alloc (.cells (pathV none 0 Pa.zero) 108)).alloc (.cells #[.int .i64 0, .int .i64 0] 174)
    have hc3 := ((hc0.trans hc2 (by simp)).alloc (.cells (pathV none 0 Pa.zero) 108)).alloc (.cells #[.int .i64 0, .int .i64 0] 174)
    have hE2 : ErrIn w2 := (hc2.cell (World.block_lt_of_cell? _ _ hE0) (by simp)).trans hE0
    have hS3 := Blk.new (w2.alloc (.cells (pathV none 0 Pa.zero) 108)) 174 #[.int .i64 0, .int .i64 0]
    rw [World.size_alloc] at hS3
    have hc23 := ((Chg.refl [] w2).alloc (.cells (pathV none 0 Pa.zero) 108)).alloc (.cells #[.int .i64 0, .int .i64 0] 174)
    have hE3 : ErrIn _ := (hc23.cell (World.block_lt_of_cell? _ _ hE2) (by simp)).trans hE2
    have hml : m < w2.heap.size := by have := hR0.lt; have := hc2.size; omega
    simp only [pathV, Pa.zero, List.length_nil, errO, stopV] at hR3 hc3 hS3 hE3 ⊢
    have hAs := as_hit (stopOf kind user t).1 (stopOf kind user t).2 _ _ _ _ hE3 hS3
    have HWQ : Hid (walkP n W L root page kind user = (Pa.zero, (stopOf kind user t).1, (stopOf kind user t).2)) := Lib.hid (by rw [HWP.out]; rfl)
    clear HWP hE3 hS3 hc23 hE2 hE0 hgr
    generalize (stopOf kind user t).1 = sh at *
    generalize (stopOf kind user t).2 = sc at *
    go_wp2_with fail
    refine hAs.mono ?_; rintro e w4 ⟨rfl, k4, hS4⟩
    have hR4 := hR3.chg_ k4 (by simp; omega)
    have hc4 : Chg [] w w4 := hc3.trans k4 (by intro i hi hm; simp at hm; omega)
    clear hAs hR3 hc3 k4
    generalize w2.heap.size + 1 = sb at *
    have s0 := hS4.cell 0; have s1 := hS4.cell 1
    simp only [List.getElem?_toArray, List.getElem?_cons_zero, List.getElem?_cons_succ] at s0 s1
    obtain ⟨r0, r1, r2, r3, r4, r5, r6, q0, q1, q2, q3, q4, q5, q6⟩ := blk7 hR4
    have hne : ¬ m = sb := fun e => by subst e; exact Blk.type_ne hR4 hS4 (by decide) rfl
    have hne' : ¬ sb = m := fun e => hne e.symm
    go_wp2_with fail
    go_region
    go_wp2_with fail
    refine bodyPost_ret (cell_tmps_ret rfl ((set7 hR4).drew) rfl Tryz.underlying108 rfl (by kernel_rfl)) rfl ?_
    rw [HWQ.out]
    exact ⟨none, 0, rfl, World.ownsRow_nil _ _ _ _, (chg7 hc4 (by omega)).drew⟩
  | ok P =>
    obtain ⟨A, c, rfl, hrow, hc2⟩ := hPR
    have hrow2 := own_weak hrow hsz
    have hR3 := ((hR0.chg_ hc2 (by simp)).alloc (.cells (pathV A c P) 108)).alloc (.cells #[.int .i64 0, .int .i64 0] 174)
    have hP3 := (Blk.new w2 108 (pathV A c P)).alloc (.cells #[.int .i64 0, .int .i64 0] 174)
    have hc23 := ((Chg.refl [] w2).alloc (.cells (pathV A c P) 108)).alloc (.cells #[.int .i64 0, .int .i64 0] 174)
    have hc3 := ((hc0.trans hc2 (by simp)).alloc (.cells (pathV A c P) 108)).alloc (.cells #[.int .i64 0, .int .i64 0] 174)
    have hrow3 := own_chg hrow2 hc23 (by simp)
    have HWQ : Hid (walkP n W L root page kind user = (P, 0, 0)) := Lib.hid (by rw [HWP.out]; rfl)
    clear HWP hrow hrow2 hc23 hE0 hgr hR0 hc0 hc2
    obtain ⟨pats, pg, ⟨prw, pru, prx⟩, plg, pdy⟩ := P
    simp only [pathV] at *
    obtain ⟨p0_, p1_, p2_, p3_, p4_, p5_, p6_, _, _, _, _, _, _, _⟩ := blk7 hP3
    obtain ⟨r0, r1, r2, r3, r4, r5, r6, q0, q1, q2, q3, q4, q5, q6⟩ := blk7 hR3
    go_wp2_with fail
    refine (as_nil _ _).mono ?_; rintro e w4 ⟨rfl, rfl⟩
    go_wp2_with fail
    refine bodyPost_ret (cell_tmps_ret rfl (set7 hR3) rfl Tryz.underlying108 rfl (by kernel_rfl)) rfl ?_
    rw [HWQ.out]
    refine ⟨A, c, rfl, ?_, chg7 hc3 (by omega)⟩
    rw [hmm]
    refine own_chg hrow3 (chg7 (Chg.refl [m] _) (by simp)) (fun g hg hi => ?_)
    obtain ⟨cs, hb⟩ := own_cells hrow3 g (by simp [hg])
    simp at hi; subst hi
    exact Blk.type_ne hb hR3 (by decide) rfl

end Go.Proofs.YtgebfagiomcmbaaGreatDoor

namespace Go.Proofs.YtgebfagiomcmbaaGreatDoor
open Go.RowKit Go.Maps

set_option maxHeartbeats 400000 in
theorem anyhow_any (v : Int) (w : World) : Calls Tryz.prog 132 #[.int .u64 v] w fun e w' => e = .returned (.bool true) ∧ w = w' := by
  go_enter Tryz.func132, Tryz.ntmps132
  go_wp2_with fail
  go_ret
  exact ⟨rfl, rfl⟩

set_option maxRecDepth 100000 in
set_option maxHeartbeats 1000000 in
theorem used_any (v : Nat) (w : World) (hv : v < 18446744073709551616) : Calls Tryz.prog 110 #[.int .u64 v] w fun e w' => e = .returned (.bool (getE v).a) ∧ Chg [] w w' := by
  have hcs : (getE v).cs = #[.bool (getE v).p, .bool (getE v).w, .bool (getE v).u, .bool (getE v).a, .bool (getE v).d, .bool (getE v).s, .bool (getE v).n, .bool (getE v).bad, .int .i64 (getE v).f] := rfl
  have hGet : ∀ w0 : World, Calls Tryz.prog 127 #[.int .u64 v] w0 fun e w' => e = .returned (.agg (getE v).cs) ∧ Chg [] w0 w' := fun w0 => Get_any v w0 hv
  rw [hcs] at hGet
  generalize (getE v).p = e0 at *
  generalize (getE v).w = e1 at *
  generalize (getE v).u = e2 at *
  generalize (getE v).a = e3 at *
  generalize (getE v).d = e4 at *
  generalize (getE v).s = e5 at *
  generalize (getE v).n = e6 at *
  generalize (getE v).bad = e7 at *
  generalize (getE v).f = e8 at *
  clear hcs
  have hfd : ∀ w0 : World, (Instr.field 154 (.agg #[.bool e0, .bool e1, .bool e2, .bool e3, .bool e4, .bool e5, .bool e6, .bool e7, .int .i64 e8]) 3).run Tryz.prog w0 = .ok (.bool e3) w0 := fun w0 => by kernel_rfl
  go_enter Tryz.func110, Tryz.ntmps110
  go_wp2_with fail
  refine (hGet _).mono ?_; rintro e w1 ⟨rfl, h1⟩
  go_wp2_with fail
  go_ret
  exact ⟨rfl, h1⟩

set_option maxRecDepth 100000 in
set_option maxHeartbeats 4000000 in
theorem each_anyhow (q : Nat) (S : List Nat) (p : Nat) (L : List Int) (h b n : Nat) (W : List Int) (A : Option Addr) (N c : Nat) (ats : List (Int × Int)) (w : World) (gu : GuIn w q S p L h b n W) (hW : WdW W) (hs : SlA w A N ats) (hN : N ≤ 9223372036854775807) :
    Calls Tryz.prog 109 #[.pointer (some ⟨q, 0, none⟩), .slice A N c, .func (.func 132) #[] #[]] w fun e w' => e = .returned (.bool (ats.all fun a => hasG n L a.1 a.2)) ∧ Chg [] w w' := by
  have hlen := hs.len
  go_enter Tryz.func109, Tryz.ntmps109
  go_wp2_with fail
  go_loopw [13] (fun i w' => ∃ k : Nat, k ≤ N ∧ i = .int .i64 k ∧ Chg [] w w' ∧ (ats.take k).all (fun a => hasG n L a.1 a.2) = true) (fun i _ => N - (intOf i).toNat)
  case atStart => exact ⟨0, by omega, rfl, Chg.refl [] w, rfl⟩
  case round =>
    obtain ⟨k, hk, rfl, hc, hall⟩ := hrel
    by_cases hlt : k < N
    · obtain ⟨ab, off, rfl, hb, hx, c0, c1⟩ := (hs.self hc).get hlt
      have guk := gu.self hc
      have hel : ((hasG n L (ats.getD k (0, 0)).1 (ats.getD k (0, 0)).2) = true → (ats.take (k + 1)).all (fun a => hasG n L a.1 a.2) = true) ∧ ((hasG n L (ats.getD k (0, 0)).1 (ats.getD k (0, 0)).2) = false → ats.all (fun a => hasG n L a.1 a.2) = false) := by
        cases ho : (hasG n L (ats.getD k (0, 0)).1 (ats.getD k (0, 0)).2) with
        | true =>
          refine ⟨fun _ => ?_, fun h => by cases h⟩
          have hkl := (List.getElem?_eq_some_iff.1 hx).1
          rw [List.take_succ_eq_append_getElem hkl, (List.getElem?_eq_some_iff.1 hx).2, List.all_append, hall]
          simp only [List.all_cons, List.all_nil, Bool.and_true, Bool.true_and]
          exact ho
        | false =>
          refine ⟨(fun h => by cases h), fun _ => ?_⟩
          rw [List.all_eq_false]
          exact ⟨_, List.mem_of_getElem? hx, by rw [ho]; simp⟩
      generalize hgi : ats.getD k (0, 0) = gi at *
      obtain ⟨g, i⟩ := gi
      simp only at c0 c1 hel hx
      have HX := Lib.hid hx
      clear hgi hx hall hlen
      by_cases hh : hasG n L g i = true
      · obtain ⟨_, r2, r3⟩ := rd_word hW hh
        generalize hv : (getG n W L g i).toNat = v at *
        have hat := Blk.new wr 158 #[.int .i64 g, .int .i64 i]
        have hget := gu_get q S p L h b n W g i v true _ (guk.self ((Chg.refl [] wr).alloc (.cells #[.int .i64 g, .int .i64 i] 158))) r2 hh
        rw [hh] at hel
        have HEL := Lib.hid hel
        clear hel hh r2 hv
        go_wp2_with fail
        refine hget.mono ?_; rintro e w' ⟨rfl, rfl⟩
        go_wp2_with fail
        refine (anyhow_any _ _).mono ?_; rintro e w3 ⟨rfl, rfl⟩
        go_wp2_with fail
        go_roundw
        case rel => exact ⟨k + 1, by omega, by go_num, hc.alloc _, HEL.out.1 (by simp)⟩
        case measure => simp [intOf]; omega
      · have hh' : hasG n L g i = false := by simpa using hh
        have hget := GuGet_at q S p L h b n W g i _ (guk.self ((Chg.refl [] wr).alloc (.cells #[.int .i64 g, .int .i64 i] 158)))
        rw [hh'] at hget hel
        have HEL : Hid (ats.all (fun a => hasG n L a.1 a.2) = false) := Lib.hid (hel.2 (by simp))
        generalize getG n W L g i = v at hget
        clear hh hh' hel
        go_wp2_with fail
        refine hget.mono ?_; rintro e w' ⟨rfl, rfl⟩
        go_wp2_with fail
        go_ret
        exact ⟨ret_bool HEL.out.symm, hc.alloc _⟩
    · obtain rfl : k = N := by omega
      have HALL : Hid (ats.all (fun a => hasG n L a.1 a.2) = true) := Lib.hid (by rw [← hlen, List.take_length] at hall; exact hall)
      clear hall hlen
      go_wp2_with fail
      go_ret
      exact ⟨ret_bool HALL.out.symm, hc⟩

set_option maxRecDepth 100000 in
set_option maxHeartbeats 4000000 in
theorem each_used (q : Nat) (S : List Nat) (p : Nat) (L : List Int) (h b n : Nat) (W : List Int) (A : Option Addr) (N c : Nat) (ats : List (Int × Int)) (w : World) (gu : GuIn w q S p L h b n W) (hW : WdW W) (hs : SlA w A N ats) (hN : N ≤ 9223372036854775807) :
    Calls Tryz.prog 109 #[.pointer (some ⟨q, 0, none⟩), .slice A N c, .func (.func 110) #[] #[]] w fun e w' => e = .returned (.bool (ats.all fun a => hasG n L a.1 a.2 && (getE (getG n W L a.1 a.2).toNat).a)) ∧ Chg [] w w' := by
  have hlen := hs.len
  go_enter Tryz.func109, Tryz.ntmps109
  go_wp2_with fail
  go_loopw [13] (fun i w' => ∃ k : Nat, k ≤ N ∧ i = .int .i64 k ∧ Chg [] w w' ∧ (ats.take k).all (fun a => hasG n L a.1 a.2 && (getE (getG n W L a.1 a.2).toNat).a) = true) (fun i _ => N - (intOf i).toNat)
  case atStart => exact ⟨0, by omega, rfl, Chg.refl [] w, rfl⟩
  case round =>
    obtain ⟨k, hk, rfl, hc, hall⟩ := hrel
    by_cases hlt : k < N
    · obtain ⟨ab, off, rfl, hb, hx, c0, c1⟩ := (hs.self hc).get hlt
      have guk := gu.self hc
      have hel : ((hasG n L (ats.getD k (0, 0)).1 (ats.getD k (0, 0)).2 && (getE (getG n W L (ats.getD k (0, 0)).1 (ats.getD k (0, 0)).2).toNat).a) = true → (ats.take (k + 1)).all (fun a => hasG n L a.1 a.2 && (getE (getG n W L a.1 a.2).toNat).a) = true) ∧ ((hasG n L (ats.getD k (0, 0)).1 (ats.getD k (0, 0)).2 && (getE (getG n W L (ats.getD k (0, 0)).1 (ats.getD k (0, 0)).2).toNat).a) = false → ats.all (fun a => hasG n L a.1 a.2 && (getE (getG n W L a.1 a.2).toNat).a) = false) := by
        cases ho : (hasG n L (ats.getD k (0, 0)).1 (ats.getD k (0, 0)).2 && (getE (getG n W L (ats.getD k (0, 0)).1 (ats.getD k (0, 0)).2).toNat).a) with
        | true =>
          refine ⟨fun _ => ?_, fun h => by cases h⟩
          have hkl := (List.getElem?_eq_some_iff.1 hx).1
          rw [List.take_succ_eq_append_getElem hkl, (List.getElem?_eq_some_iff.1 hx).2, List.all_append, hall]
          simp only [List.all_cons, List.all_nil, Bool.and_true, Bool.true_and]
          exact ho
        | false =>
          refine ⟨(fun h => by cases h), fun _ => ?_⟩
          rw [List.all_eq_false]
          exact ⟨_, List.mem_of_getElem? hx, by rw [ho]; simp⟩
      generalize hgi : ats.getD k (0, 0) = gi at *
      obtain ⟨g, i⟩ := gi
      simp only at c0 c1 hel hx
      have HX := Lib.hid hx
      clear hgi hx hall hlen
      by_cases hh : hasG n L g i = true
      · obtain ⟨_, r2, r3⟩ := rd_word hW hh
        generalize hv : (getG n W L g i).toNat = v at *
        have hat := Blk.new wr 158 #[.int .i64 g, .int .i64 i]
        have hget := gu_get q S p L h b n W g i v true _ (guk.self ((Chg.refl [] wr).alloc (.cells #[.int .i64 g, .int .i64 i] 158))) r2 hh
        rw [hh] at hel
        have HEL := Lib.hid hel
        clear hel hh r2 hv
        have hU := fun w0 => used_any v w0 r3
        generalize (getE v).a = ua at *
        cases ua with
        | true =>
          go_wp2_with fail
          refine hget.mono ?_; rintro e w' ⟨rfl, rfl⟩
          go_wp2_with fail
          refine (hU _).mono ?_; rintro e w3 ⟨rfl, k3⟩
          go_wp2_with fail
          go_roundw
          case rel => exact ⟨k + 1, by omega, by go_num, (hc.alloc _).trans k3 (by simp), HEL.out.1 (by simp)⟩
          case measure => simp [intOf]; omega
        | false =>
          go_wp2_with fail
          refine hget.mono ?_; rintro e w' ⟨rfl, rfl⟩
          go_wp2_with fail
          refine (hU _).mono ?_; rintro e w3 ⟨rfl, k3⟩
          go_wp2_with fail
          go_ret
          exact ⟨ret_bool (HEL.out.2 (by simp)).symm, (hc.alloc _).trans k3 (by simp)⟩
      · have hh' : hasG n L g i = false := by simpa using hh
        have hget := GuGet_at q S p L h b n W g i _ (guk.self ((Chg.refl [] wr).alloc (.cells #[.int .i64 g, .int .i64 i] 158)))
        rw [hh'] at hget hel
        have HEL : Hid (ats.all (fun a => hasG n L a.1 a.2 && (getE (getG n W L a.1 a.2).toNat).a) = false) := Lib.hid (hel.2 (by simp))
        generalize getG n W L g i = v at hget
        clear hh hh' hel
        go_wp2_with fail
        refine hget.mono ?_; rintro e w' ⟨rfl, rfl⟩
        go_wp2_with fail
        go_ret
        exact ⟨ret_bool HEL.out.symm, hc.alloc _⟩
    · obtain rfl : k = N := by omega
      have HALL : Hid (ats.all (fun a => hasG n L a.1 a.2 && (getE (getG n W L a.1 a.2).toNat).a) = true) := Lib.hid (by rw [← hlen, List.take_length] at hall; exact hall)
      clear hall hlen
      go_wp2_with fail
      go_ret
      exact ⟨ret_bool HALL.out.symm, hc⟩

set_option maxHeartbeats 2000000 in
theorem Marked_at (q : Nat) (S : List Nat) (p : Nat) (L : List Int) (h b n : Nat) (W : List Int) (A : Option Addr) (c : Nat) (P : Pa) (w : World) (gu : GuIn w q S p L h b n W) (hW : WdW W) (hs : SlA w A P.ats.length P.ats) (hN : P.ats.length ≤ 9223372036854775807) :
    Calls Tryz.prog 78 #[.pointer (some ⟨q, 0, none⟩), .agg (pathV A c P)] w fun e w' => e = .returned (.bool (usedAts n W L P.ats)) ∧ Chg [] w w' := by
  obtain ⟨ats, pg, ⟨rw, ru, rx⟩, lg, dy⟩ := P
  simp only [pathV, usedAts] at *
  have hE := each_used q S p L h b n W A ats.length c ats _ (gu.self ((Chg.refl [] w).alloc (.cells #[.slice A ats.length c, .int .i64 pg, .bool rw, .bool ru, .bool rx, .bool lg, .bool dy] 108))) hW (hs.self ((Chg.refl [] w).alloc (.cells #[.slice A ats.length c, .int .i64 pg, .bool rw, .bool ru, .bool rx, .bool lg, .bool dy] 108))) hN
  go_enter Tryz.func78, Tryz.ntmps78
  go_wp2_with fail
  refine hE.mono ?_; rintro e w1 ⟨rfl, k1⟩
  go_wp2_with fail
  go_ret
  exact ⟨rfl, ((Chg.refl [] w).alloc _).trans k1 (by simp)⟩

set_option maxRecDepth 100000 in
set_option maxHeartbeats 8000000 in
theorem Mark_at (q : Nat) (S : List Nat) (p : Nat) (L : List Int) (h b n : Nat) (W : List Int) (A : Option Addr) (c : Nat) (P : Pa) (written : Bool) (w : World) (gu : GuIn w q S p L h b n W) (hW : WdW W) (hs : SlA w A P.ats.length P.ats) (hN : P.ats.length ≤ 9223372036854775807) (hap : ∀ g o, A = some ⟨g, o, none⟩ → g ≠ b) :
    Calls Tryz.prog 116 #[.pointer (some ⟨q, 0, none⟩), .agg (pathV A c P), .bool written] w fun e w' => e = .returned (.bool (allAts n L P.ats)) ∧ Chg [b] w w' ∧ GuIn w' q S p L h b n (markP n L P.ats written W) := by
  obtain ⟨ats, pg, ⟨rw, ru, rx⟩, lg, dy⟩ := P
  simp only [pathV] at *
  have hc0 := (Chg.refl [] w).alloc (.cells #[.slice A ats.length c, .int .i64 pg, .bool rw, .bool ru, .bool rx, .bool lg, .bool dy] 108)
  have hP0 := Blk.new w 108 #[.slice A ats.length c, .int .i64 pg, .bool rw, .bool ru, .bool rx, .bool lg, .bool dy]
  have gu0 := gu.self hc0
  have hs0 := hs.self hc0
  have hbw := gu.hm.ws.lt
  have hE := each_anyhow q S p L h b n W A ats.length c ats _ gu0 hW hs0 hN
  have HMP : Hid (markP n L ats written W = if allAts n L ats then markTo n L ats written W ats.length else W) := Lib.hid rfl
  unfold allAts at HMP ⊢
  obtain ⟨p0_, p1_, p2_, p3_, p4_, p5_, p6_, _, _, _, _, _, _, _⟩ := blk7 hP0
  generalize hall : ats.all (fun a => hasG n L a.1 a.2) = ta at *
  go_enter Tryz.func116, Tryz.ntmps116
  go_wp2_with fail
  generalize w.alloc (.cells #[.slice A ats.length c, .int .i64 pg, .bool rw, .bool ru, .bool rx, .bool lg, .bool dy] 108) = w0 at *
  generalize hpb : w.heap.size = pb at *
  refine hE.mono ?_; rintro e w1 ⟨rfl, k1⟩
  have gu1 := gu0.self k1
  have hs1 := hs0.self k1
  have hP1 := hP0.chg_ k1 (by simp)
  have hc1 := hc0.trans k1 (by simp)
  clear hE gu0 hs0 hP0 hc0 k1 p0_ p1_ p2_ p3_ p4_ p5_ p6_ gu hs
  cases ta with
  | false =>
    go_wp2_with fail
    go_ret
    exact ⟨rfl, hc1.weak (by simp), by rw [HMP.out]; exact gu1⟩
  | true =>
    have HALL : Hid (allAts n L ats = true) := Lib.hid hall
    clear hall
    obtain ⟨p0_, p1_, p2_, p3_, p4_, p5_, p6_, _, _, _, _, _, _, _⟩ := blk7 hP1
    go_wp2_with fail
    clear p0_ p1_ p2_ p3_ p4_ p5_ p6_
    go_loopw [20] (fun i w' => ∃ k : Nat, k ≤ ats.length ∧ i = .int .i64 k ∧ Chg [b] w1 w' ∧ GuIn w' q S p L h b n (markTo n L ats written W k)) (fun i _ => ats.length - (intOf i).toNat)
    case atStart => exact ⟨0, by omega, rfl, Chg.refl _ w1, gu1⟩
    case round =>
      obtain ⟨k, hk, rfl, hc, guk⟩ := hrel
      clear gu1
      have hcw : Chg [b] w wr := (hc1.weak (T := [b]) (by simp)).trans hc (by intro i hi hm; exact hm)
      by_cases hlt : k < ats.length
      · have hsk := hs1.chg hc (fun g o e => by have := hap g o e; simp; exact this)
        have hPk := hP1.chg_ hc (by simp; omega)
        obtain ⟨ab, off, hAe, hb, hx, c0, c1⟩ := hsk.get hlt
        subst hAe
        have hWk := hW.mark_to n L ats written k
        have hh := allAts_get HALL.out hlt
        have HST : Hid (markTo n L ats written W (k + 1) = setG n (markTo n L ats written W k) L (ats.getD k (0, 0)).1 (ats.getD k (0, 0)).2 (usedN (getG n (markTo n L ats written W k) L (ats.getD k (0, 0)).1 (ats.getD k (0, 0)).2).toNat (written && decide (k + 1 = ats.length)))) := Lib.hid rfl
        generalize hgi : ats.getD k (0, 0) = gi at *
        obtain ⟨g, i⟩ := gi
        simp only at c0 c1 hx hh HST
        have HX := Lib.hid hx
        clear hgi hx
        generalize markTo n L ats written W k = Wk at *
        obtain ⟨_, r2, r3⟩ := rd_word hWk hh
        have hdec : decide ((k : Int) = (ats.length : Int) - 1) = decide (k + 1 = ats.length) := by rw [decide_eq_decide]; omega
        have hdec2 : ((k : Int) == (ats.length : Int) - 1) = decide (k + 1 = ats.length) := by rw [Bool.eq_iff_iff]; simp; omega
        generalize hv : (getG n Wk L g i).toNat = v at *
        generalize decide (k + 1 = ats.length) = tl at *
        have hwr64 : wrap64 ((ats.length : Int) - 1) = (ats.length : Int) - 1 := by unfold wrap64; omega
        have hat := Blk.new wr 158 #[.int .i64 g, .int .i64 i]
        have hca := (Chg.refl [] wr).alloc (.cells #[.int .i64 g, .int .i64 i] 158)
        have gua := guk.self hca
        have hPa := hPk.alloc (.cells #[.int .i64 g, .int .i64 i] 158)
        have hget := gu_get q S p L h b n Wk g i v true _ gua r2 hh
        obtain ⟨p0_, p1_, p2_, p3_, p4_, p5_, p6_, _, _, _, _, _, _, _⟩ := blk7 hPa
        have hbt := guk.hm.ws.lt
        clear r2 hv guk
        have t0 := hat.cell 0; have t1 := hat.cell 1
        simp only [List.getElem?_toArray, List.getElem?_cons_zero, List.getElem?_cons_succ] at t0 t1
        go_wp2_with fail
        refine hget.mono ?_; rintro e w' ⟨rfl, rfl⟩
        go_wp2_with fail
        generalize hw2 : wr.alloc (.cells #[.int .i64 g, .int .i64 i] 158) = w2 at *
        generalize wr.heap.size = gt at *
        have hUs := fun (t : Bool) (w0 : World) => Used_any v t w0 r3
        cases written with
        | true =>
          refine wp_region_noPanic ?_
          refine wp_region_held_drew (S := (fun w' => Blk w' gt 158 #[.int .i64 g, .int .i64 i])) (by kernel_rfl) ?_ (fun hHeld => ?_)
          · exact hat
          (refine take_on 0 (some 40) (v := ?_) rfl rfl (by kernel_rfl) (by kernel_rfl) (by kernel_rfl) (fun _ _ _ h => h) (by rfl) (by assumption) ?_ ?_; rotate_left; · (intro w hSw; skip; go_simp; (try with_reducible rfl)))
          (try simp only [Act.put, List.setIfInBounds_toArray, List.set_cons_zero, List.set_cons_succ])
          (refine take_on 1 (some 41) (v := ?_) rfl rfl (by kernel_rfl) (by kernel_rfl) (by kernel_rfl) (fun _ _ _ h => h) (by rfl) (by assumption) ?_ ?_; rotate_left; · (intro w hSw; skip; go_simp; (try with_reducible rfl)))
          (try simp only [Act.put, List.setIfInBounds_toArray, List.set_cons_zero, List.set_cons_succ])
          (refine take_on 2 (some 42) (v := ?_) rfl rfl (by kernel_rfl) (by kernel_rfl) (by kernel_rfl) (fun _ _ _ h => h) (by rfl) (by assumption) ?_ ?_; rotate_left; · (intro w hSw; have t0 := hSw.cell 0; have t1 := hSw.cell 1; simp only [List.getElem?_toArray, List.getElem?_cons_zero, List.getElem?_cons_succ] at t0 t1; go_simp; (try with_reducible rfl)))
          (try simp only [Act.put, List.setIfInBounds_toArray, List.set_cons_zero, List.set_cons_succ])
          (refine take_on 3 (some 43) (v := ?_) rfl rfl (by kernel_rfl) (by kernel_rfl) (by kernel_rfl) (fun _ _ _ h => h) (by rfl) (by assumption) ?_ ?_; rotate_left; · (intro w hSw; skip; go_simp; (try with_reducible rfl)))
          (try simp only [Act.put, List.setIfInBounds_toArray, List.set_cons_zero, List.set_cons_succ])
          (refine take_on 4 (some 44) (v := ?_) rfl rfl (by kernel_rfl) (by kernel_rfl) (by kernel_rfl) (fun _ _ _ h => h) (by rfl) (by assumption) ?_ ?_; rotate_left; · (intro w hSw; have t0 := hSw.cell 0; have t1 := hSw.cell 1; simp only [List.getElem?_toArray, List.getElem?_cons_zero, List.getElem?_cons_succ] at t0 t1; go_simp; (try with_reducible rfl)))
          (try simp only [Act.put, List.setIfInBounds_toArray, List.set_cons_zero, List.set_cons_succ])
          (refine take_on 5 (some 45) (v := ?_) rfl rfl (by kernel_rfl) (by kernel_rfl) (by kernel_rfl) (fun _ _ _ h => h) (by rfl) (by assumption) ?_ ?_; rotate_left; · (intro w hSw; skip; go_simp; (try with_reducible rfl)))
          (try simp only [Act.put, List.setIfInBounds_toArray, List.set_cons_zero, List.set_cons_succ])
          (refine take_on 6 (some 46) (v := ?_) rfl rfl (by kernel_rfl) (by kernel_rfl) (by kernel_rfl) (fun _ _ _ h => h) (by rfl) (by assumption) ?_ ?_; rotate_left; · (intro w hSw; skip; go_simp; (try with_reducible rfl)))
          (try simp only [Act.put, List.setIfInBounds_toArray, List.set_cons_zero, List.set_cons_succ])
          (refine take_on 7 (some 47) (v := ?_) rfl rfl (by kernel_rfl) (by kernel_rfl) (by kernel_rfl) (fun _ _ _ h => h) (by rfl) (by assumption) ?_ ?_; rotate_left; · (intro w hSw; skip; go_simp; (try with_reducible rfl)))
          (try simp only [Act.put, List.setIfInBounds_toArray, List.set_cons_zero, List.set_cons_succ])
          (refine take_on 8 (some 48) (v := ?_) rfl rfl (by kernel_rfl) (by kernel_rfl) (by kernel_rfl) (fun _ _ _ h => h) (by rfl) (by assumption) ?_ ?_; rotate_left; · (intro w hSw; skip; go_simp; (try with_reducible rfl)))
          (try simp only [Act.put, List.setIfInBounds_toArray, List.set_cons_zero, List.set_cons_succ])
          (refine take_on 9 (some 49) (v := ?_) rfl rfl (by kernel_rfl) (by kernel_rfl) (by kernel_rfl) (fun _ _ _ h => h) (by rfl) (by assumption) ?_ ?_; rotate_left; · (intro w hSw; skip; go_simp; (try with_reducible rfl)))
          (try simp only [Act.put, List.setIfInBounds_toArray, List.set_cons_zero, List.set_cons_succ])
          refine wpAnyH_ready (rs := [10]) (by kernel_rfl) (by simp) ?_; refine AllReadyH.cons (o := _) rfl (fun K hK => ?_) AllReadyH.nil
          go_simp
          (go_at_call 133; refine (hUs tl _).mono ?_; rintro e w3 ⟨rfl, rfl⟩)
          refine hK.out _ _ (by (try dsimp only); exact hat) (fun hHeld => ?_)
          clear hK K
          (try simp only [Act.put, List.setIfInBounds_toArray, List.set_cons_zero, List.set_cons_succ])
          refine wpAnyH_ready (rs := [11]) (by kernel_rfl) (by simp) ?_; refine AllReadyH.cons (o := _) rfl (fun K hK => ?_) AllReadyH.nil
          go_simp
          (go_at_call 36; refine (gu_set q S p L h b n Wk g i _ true _ _ (gua.self (Chg.refl [] w2).drew) hh rfl).mono ?_; rintro e w4 ⟨rfl, k4, gu4⟩)
          refine hK.out _ _ (by (try dsimp only); exact (Blk.drew hat).chg_ k4 (by rw [List.mem_singleton]; omega)) (fun hHeld => ?_)
          clear hK K
          (try simp only [Act.put, List.setIfInBounds_toArray, List.set_cons_zero, List.set_cons_succ])
          refine wpAnyH_done (by kernel_rfl) ?_ _
          refine NoPanic.normal ?_
          go_wp2_with fail
          go_roundw
          case rel => exact ⟨k + 1, by omega, by go_num, (hc.trans hca (by simp)).trans (Chg.trans (Chg.drew (Chg.refl [b] w2)) k4 (by simp)) (by simp), by rw [HST.out]; exact gu4⟩
          case measure => simp [intOf]; omega
        | false =>
          refine wp_region_noPanic ?_
          refine wp_region_held_drew (S := (fun w' => Blk w' gt 158 #[.int .i64 g, .int .i64 i])) (by kernel_rfl) ?_ (fun hHeld => ?_)
          · exact hat
          (refine take_on 0 (some 40) (v := ?_) rfl rfl (by kernel_rfl) (by kernel_rfl) (by kernel_rfl) (fun _ _ _ h => h) (by rfl) (by assumption) ?_ ?_; rotate_left; · (intro w hSw; skip; go_simp; (try with_reducible rfl)))
          (try simp only [Act.put, List.setIfInBounds_toArray, List.set_cons_zero, List.set_cons_succ])
          (refine take_on 1 (some 41) (v := ?_) rfl rfl (by kernel_rfl) (by kernel_rfl) (by kernel_rfl) (fun _ _ _ h => h) (by rfl) (by assumption) ?_ ?_; rotate_left; · (intro w hSw; skip; go_simp; (try with_reducible rfl)))
          (try simp only [Act.put, List.setIfInBounds_toArray, List.set_cons_zero, List.set_cons_succ])
          (refine take_on 2 (some 42) (v := ?_) rfl rfl (by kernel_rfl) (by kernel_rfl) (by kernel_rfl) (fun _ _ _ h => h) (by rfl) (by assumption) ?_ ?_; rotate_left; · (intro w hSw; have t0 := hSw.cell 0; have t1 := hSw.cell 1; simp only [List.getElem?_toArray, List.getElem?_cons_zero, List.getElem?_cons_succ] at t0 t1; go_simp; (try with_reducible rfl)))
          (try simp only [Act.put, List.setIfInBounds_toArray, List.set_cons_zero, List.set_cons_succ])
          (refine take_on 3 (some 43) (v := ?_) rfl rfl (by kernel_rfl) (by kernel_rfl) (by kernel_rfl) (fun _ _ _ h => h) (by rfl) (by assumption) ?_ ?_; rotate_left; · (intro w hSw; skip; go_simp; (try with_reducible rfl)))
          (try simp only [Act.put, List.setIfInBounds_toArray, List.set_cons_zero, List.set_cons_succ])
          (refine take_on 4 (some 44) (v := ?_) rfl rfl (by kernel_rfl) (by kernel_rfl) (by kernel_rfl) (fun _ _ _ h => h) (by rfl) (by assumption) ?_ ?_; rotate_left; · (intro w hSw; have t0 := hSw.cell 0; have t1 := hSw.cell 1; simp only [List.getElem?_toArray, List.getElem?_cons_zero, List.getElem?_cons_succ] at t0 t1; go_simp; (try with_reducible rfl)))
          (try simp only [Act.put, List.setIfInBounds_toArray, List.set_cons_zero, List.set_cons_succ])
          (refine take_on 5 (some 45) (v := ?_) rfl rfl (by kernel_rfl) (by kernel_rfl) (by kernel_rfl) (fun _ _ _ h => h) (by rfl) (by assumption) ?_ ?_; rotate_left; · (intro w hSw; skip; go_simp; (try with_reducible rfl)))
          (try simp only [Act.put, List.setIfInBounds_toArray, List.set_cons_zero, List.set_cons_succ])
          (refine take_on 6 (some 46) (v := ?_) rfl rfl (by kernel_rfl) (by kernel_rfl) (by kernel_rfl) (fun _ _ _ h => h) (by rfl) (by assumption) ?_ ?_; rotate_left; · (intro w hSw; skip; go_simp; (try with_reducible rfl)))
          (try simp only [Act.put, List.setIfInBounds_toArray, List.set_cons_zero, List.set_cons_succ])
          (refine take_on 7 (some 47) (v := ?_) rfl rfl (by kernel_rfl) (by kernel_rfl) (by kernel_rfl) (fun _ _ _ h => h) (by rfl) (by assumption) ?_ ?_; rotate_left; · (intro w hSw; skip; go_simp; (try with_reducible rfl)))
          (try simp only [Act.put, List.setIfInBounds_toArray, List.set_cons_zero, List.set_cons_succ])
          (refine take_off 8 (some 48) rfl rfl (by kernel_rfl) (by kernel_rfl) (by kernel_rfl) (fun _ _ _ h => h) (by rfl) (by assumption) ?_)
          (try simp only [Act.put, List.setIfInBounds_toArray, List.set_cons_zero, List.set_cons_succ])
          (refine take_on 9 (some 49) (v := ?_) rfl rfl (by kernel_rfl) (by kernel_rfl) (by kernel_rfl) (fun _ _ _ h => h) (by rfl) (by assumption) ?_ ?_; rotate_left; · (intro w hSw; skip; go_simp; (try with_reducible rfl)))
          (try simp only [Act.put, List.setIfInBounds_toArray, List.set_cons_zero, List.set_cons_succ])
          refine wpAnyH_ready (rs := [10]) (by kernel_rfl) (by simp) ?_; refine AllReadyH.cons (o := _) rfl (fun K hK => ?_) AllReadyH.nil
          go_simp
          (go_at_call 133; refine (hUs false _).mono ?_; rintro e w3 ⟨rfl, rfl⟩)
          refine hK.out _ _ (by (try dsimp only); exact hat) (fun hHeld => ?_)
          clear hK K
          (try simp only [Act.put, List.setIfInBounds_toArray, List.set_cons_zero, List.set_cons_succ])
          refine wpAnyH_ready (rs := [11]) (by kernel_rfl) (by simp) ?_; refine AllReadyH.cons (o := _) rfl (fun K hK => ?_) AllReadyH.nil
          go_simp
          (go_at_call 36; refine (gu_set q S p L h b n Wk g i _ true _ _ (gua.self (Chg.refl [] w2).drew) hh rfl).mono ?_; rintro e w4 ⟨rfl, k4, gu4⟩)
          refine hK.out _ _ (by (try dsimp only); exact (Blk.drew hat).chg_ k4 (by rw [List.mem_singleton]; omega)) (fun hHeld => ?_)
          clear hK K
          (try simp only [Act.put, List.setIfInBounds_toArray, List.set_cons_zero, List.set_cons_succ])
          refine wpAnyH_done (by kernel_rfl) ?_ _
          refine NoPanic.normal ?_
          go_wp2_with fail
          go_roundw
          case rel => exact ⟨k + 1, by omega, by go_num, (hc.trans hca (by simp)).trans (Chg.trans (Chg.drew (Chg.refl [b] w2)) k4 (by simp)) (by simp), by rw [HST.out]; exact gu4⟩
          case measure => simp [intOf]; omega
      · obtain rfl : k = ats.length := by omega
        have HF := Lib.hid HMP
        clear hs1 hP1
        go_wp2_with fail
        go_ret
        exact ⟨rfl, hcw, by rw [HMP.out]; simpa using guk⟩

end Go.Proofs.YtgebfagiomcmbaaGreatDoor

namespace Go.Proofs.YtgebfagiomcmbaaGreatDoor
open Go.RowKit Go.Maps

set_option maxRecDepth 100000 in
set_option maxHeartbeats 8000000 in
theorem MadeN_at (A : Option Addr) (m c : Nat) (l : List Pu) (w : World) (h : SlP w A m l) :
    Calls Tryz.prog 10 #[.slice A m c] w fun e w' => ∃ q S p hh b, e = .returned (.pointer (some ⟨q, 0, none⟩)) ∧ Chg [] w w' ∧ GuIn w' q S p L16 hh b 16 (madeW l) ∧ ∀ i ∈ b :: q :: hh :: S, w.heap.size ≤ i := by
  have hl := h.le
  have hlen := h.len
  obtain ⟨i0, hi0, hz0, hz1, hz2⟩ := info_parts int_info
  go_enter Tryz.func10, Tryz.ntmps10
  go_wp2_with fail
  go_loopw [3, 4] (fun v i w' => ∃ k : Nat, k ≤ 16 ∧ i = .int .i64 k ∧ Chg [] w w' ∧ w'.ownsRow w.heap.size 3 1 v k (vals .i64 (L16.take k))) (fun _ i _ => 16 - (intOf i).toNat)
  case atStart => exact ⟨0, by omega, rfl, Chg.refl [] w, World.ownsRow_nil _ _ _ _⟩
  case round =>
    obtain ⟨k, hk, rfl, hc, ho⟩ := hrel
    by_cases hlt : k < 16
    · have hk1 : vals .i64 (L16.take (k + 1)) = vals .i64 (L16.take k) ++ [.int .i64 (k : Int)] := by
        have : ∀ j : Fin 16, L16.take (j.val + 1) = L16.take j.val ++ [(j.val : Int)] := by decide
        rw [this ⟨k, hlt⟩, vals_app]; rfl
      have HK1 := Lib.hid hk1
      have hws := hc.size
      clear hk1
      obtain ⟨A1, c1, rfl, _, _⟩ := own_form ho
      go_wp2_with (at_builtin; refine wpList_append_src rfl _ _ 74 rfl w.heap.size 3 i0 _ 1 8 Tryz.underlying74 hi0 hz0 hz1 hz2 rfl (by omega) _ _ _ rfl (World.ownsRow.alloc ho _) (some ⟨wr.heap.size, 0, none⟩) 1 1 [.int .i64 k] rfl (src_one (Blk.new wr 3 #[.int .i64 (k : Int)])) (by simp [maxLen]; omega) (by omega) (by simp; omega) ?_; intro v3 w3 hown3 hc3 hv3)
      go_roundw
      case rel =>
        refine ⟨k + 1, by omega, by go_num, (hc.alloc (.cells #[.int .i64 (k : Int)] 3)).trans hc3 (fun i hi hm => ?_), by rw [HK1.out]; exact hown3⟩
        have := own_low ho i hm
        omega
      case measure => simp [intOf]; omega
    · obtain rfl : k = 16 := by omega
      rw [show L16.take 16 = L16 by decide] at ho
      clear hlt hk
      obtain ⟨A1, c1, rfl, _, _⟩ := own_form ho
      have hoI : OwnI wr 3 .i64 (.slice A1 16 c1) L16 := own_weak ho (Nat.zero_le _)
      clear ho
      go_wp2_with fail
      refine (New_at 16 _ (by omega) (by omega)).mono ?_; rintro e w2 ⟨hp, b, rfl, hc2, hm2, hh, hb⟩
      have hca := hc.trans hc2 (by simp)
      have hbw : w.heap.size ≤ b := by have := hc.size; omega
      have hhw : w.heap.size ≤ hp := by have := hc.size; omega
      have hsk := (hoI.chg hc2 (by simp)).slk (fun x hx => by
        have h16 : ∀ y ∈ L16, 0 ≤ y ∧ y ≤ 15 := by decide
        have := h16 x hx
        simp [IntKind.min, IntKind.max, IntKind.signed, IntKind.bits]; omega) (by decide)
      clear hoI hc hc2 hh hb
      go_wp2_with fail
      refine (GNew_ok A1 16 c1 L16 16 _ hsk L16_ok).mono ?_; rintro e w3 ⟨p, S, rfl, hc3, h3, hS⟩
      have hm3 := hm2.chg hc3 (by simp) (by simp)
      have hcb : Chg [] w w3 := hca.trans hc3 (by simp)
      have hSw : ∀ i ∈ S, w.heap.size ≤ i := fun i hi => Nat.le_trans hca.size (hS i hi)
      clear hca hc3 hm2 hS hsk
      go_wp2_with fail
      refine (GuNew_at p hp _).mono ?_; rintro e w4 ⟨q, rfl, hc4, h4, hq⟩
      have g4 : GuIn w4 q S p L16 hp b 16 (zeros (8 * 16)) := ⟨h4, h3.self hc4, hm3.chg hc4 (by simp) (by simp), L16_ok.inh⟩
      have hcc : Chg [] w w4 := hcb.trans hc4 (by simp)
      have hqw : w.heap.size ≤ q := Nat.le_trans hcb.size hq
      have hall : Hid (∀ i ∈ b :: q :: hp :: S, w.heap.size ≤ i) := Lib.hid (by intro i hi; simp only [List.mem_cons] at hi; rcases hi with rfl | rfl | rfl | hi <;> first | assumption | exact hSw i hi)
      clear hcb hc4 h4 h3 hm3 hq hqw hSw hhw hbw
      rw [← made_nil, show ([] : List Pu) = l.take 0 from rfl] at g4
      go_wp2_with fail
      go_loopw [8] (fun i w' => ∃ k : Nat, k ≤ m ∧ i = .int .i64 k ∧ Chg [] w w' ∧ GuIn w' q S p L16 hp b 16 (madeW (l.take k))) (fun i _ => m - (intOf i).toNat)
      case atStart => exact ⟨0, by omega, rfl, hcc, g4⟩
      case round =>
        clear hcc g4
        obtain ⟨k, hk, rfl, hc, g⟩ := hrel
        by_cases hlt : k < m
        · obtain ⟨ob, off, x, rfl, _, hx, c1, c2, c3⟩ := (h.self hc).get hlt
          have HSN := Lib.hid (made_snoc hx)
          generalize madeW (l.take k) = Wk at *
          obtain ⟨xg, xi, xv⟩ := x
          simp only at c1 c2 c3
          have hset := GuSet_at q S p L16 hp b 16 Wk xg xi xv wr.drew (g.self (Chg.refl [] wr).drew)
          clear hx hlen
          go_wp2_with fail
          refine wp_region_still_tail 16 (by kernel_rfl) (by kernel_rfl) ?_
          simp only [List.take_succ_cons, List.take_zero, List.drop_succ_cons, List.drop_zero]
          change wpStill _ _ (World.drew _) _ _ _
          iterate 16 still_step
          refine wpStill_nil ?_
          change wpList _ _ _ _ _ (World.drew wr)
          go_wp2_with fail
          refine hset.mono ?_; rintro e w3 ⟨rfl, hc3, g3⟩
          clear hset c1 c2 c3
          have hcw : Chg [] w w3 := ((hc.trans (Chg.refl [] wr).drew (by simp)).trans hc3 (by intro i hi hm; simp at hm; have := hall.out b (by simp); omega))
          go_wp2_with fail
          go_roundw
          case rel => exact ⟨k + 1, by omega, by go_num, hcw, by rw [HSN.out]; exact g3⟩
          case measure => simp [intOf]; omega
        · obtain rfl : k = m := by omega
          rw [← hlen, List.take_length] at g
          clear hlt hk hlen
          go_wp2_with fail
          go_ret
          exact ⟨q, S, p, hp, b, rfl, hc, g, hall.out⟩
theorem Made_at (A : Option Addr) (m c : Nat) (l : List Pu) (w : World) (h : SlP w A m l) :
    Calls Tryz.prog 10 #[.slice A m c] w fun e w' => ∃ q S p hh b, e = .returned (.pointer (some ⟨q, 0, none⟩)) ∧ Chg [] w w' ∧ GuIn w' q S p L16 hh b 16 (madeW l) ∧ w.heap.size ≤ b :=
  (MadeN_at A m c l w h).mono fun _ _ ⟨q, S, p, hh, b, h1, h2, h3, h4⟩ => ⟨q, S, p, hh, b, h1, h2, h3, h4 b (by simp)⟩

end Go.Proofs.YtgebfagiomcmbaaGreatDoor

namespace Go.Proofs.YtgebfagiomcmbaaGreatDoor
open Go.RowKit Go.Maps

theorem ErrIn.chg {S : List Nat} {w w' : World} (h : ErrIn w) (hc : Chg S w w') (h0 : 0 ∉ S) : ErrIn w' := (hc.cell (World.block_lt_of_cell? _ _ h) h0).trans h
theorem ErrIn.self {w w' : World} (h : ErrIn w) (hc : Chg [] w w') : ErrIn w' := h.chg hc (by simp)
theorem Walk_is (q : Nat) (S : List Nat) (p : Nat) (L : List Int) (h b n : Nat) (W : List Int) (root page kind : Int) (user : Bool) (P : Pa) (how code : Int) (w : World) (hE : ErrIn w) (gu : GuIn w q S p L h b n W) (hW : WdW W) (hr : walkP n W L root page kind user = (P, how, code)) :
    Calls Tryz.prog 77 #[.pointer (some ⟨q, 0, none⟩), .int .i64 root, .int .i64 page, .int .i64 kind, .bool user] w fun e w' =>
      ∃ A c, e = .returned (.tuple #[.agg (pathV A c P), .int .i64 how, .int .i64 code]) ∧ OwnA w' 158 (.slice A P.ats.length c) P.ats ∧ (∀ g ∈ (Value.slice A P.ats.length c).ownBlock.toList, w.heap.size ≤ g) ∧ Chg [] w w' :=
  (Walk_at q S p L h b n W root page kind user w hE gu hW).mono fun e w' hh => by
    rw [hr] at hh
    obtain ⟨A, c, h1, h2, h3⟩ := hh
    exact ⟨A, c, h1, own_weak h2 (Nat.zero_le _), own_low h2, h3⟩

def hL : List Pu := [⟨1, 0, 8199⟩, ⟨2, 0, 12295⟩, ⟨3, 5, 36929⟩, ⟨2, 1, 32903⟩, ⟨2, 2, 36999⟩]
def hW : List Int := madeW hL
def hW2 : List Int := markP 16 L16 [(1, 0), (2, 0), (3, 5)] true hW
def hP1 : Pa := ⟨[(1, 0), (2, 0), (3, 5)], 9, ⟨false, false, true⟩, false, true⟩
def hP3 : Pa := ⟨[(1, 0), (2, 1)], 11, ⟨true, true, true⟩, true, false⟩
theorem hd2 : walkP 16 hW L16 1 5 1 true = (Pa.zero, 1, 7) := by kernel_rfl
end Go.Proofs.YtgebfagiomcmbaaGreatDoor

namespace Go.Proofs.YtgebfagiomcmbaaGreatDoor
open Go.RowKit

theorem code_range (k : Int) (t th bad : Bool) : 0 ≤ codeN k t th bad ∧ codeN k t th bad < 32 := by
  unfold codeN
  have h1 := pN_le th (c := 1) (by decide)
  have h2 := pN_le (k == 1) (c := 2) (by decide)
  have h3 := pN_le t (c := 4) (by decide)
  have h4 := pN_le (th && bad) (c := 8) (by decide)
  have h5 := pN_le (k == 2) (c := 16) (by decide)
  omega
section
variable {n : Nat} {W L : List Int} {root page : Int}
theorem walk_len {kind : Int} {user : Bool} {P : Pa} {h c : Int} (hr : walkP n W L root page kind user = (P, h, c)) : P.ats.length ≤ 3 := by
  rcases walk_cases n W L root page kind user with ⟨t, _, e⟩ | ⟨q, e, h1, _, _⟩
  · rw [hr] at e; injection e with e _; rw [e]; simp [Pa.zero]
  · rw [hr] at e; injection e with e _; rw [e]
    rcases path_len h1 with h | h <;> omega
theorem walk_zero {kind : Int} {user : Bool} {P : Pa} {h c : Int} (hr : walkP n W L root page kind user = (P, h, c)) (hh : h ≠ 0) : P = Pa.zero ∧ (h = 3 ∧ c = 0 ∨ h = 1 ∧ 0 ≤ c ∧ c < 32) := by
  rcases walk_cases n W L root page kind user with ⟨t, _, e⟩ | ⟨q, e, h1, _, _⟩
  · rw [hr] at e; injection e with e1 e2
    refine ⟨e1, ?_⟩
    unfold stopOf at e2
    split at e2
    · injection e2 with a b; exact .inl ⟨a, b⟩
    · right
      split at e2
      · injection e2 with a b; exact ⟨a, b ▸ (code_range _ _ _ _).1, b ▸ (code_range _ _ _ _).2⟩
      · split at e2
        · injection e2 with a b; exact ⟨a, b ▸ (code_range _ _ _ _).1, b ▸ (code_range _ _ _ _).2⟩
        · injection e2 with a b; exact ⟨a, b ▸ (code_range _ _ _ _).1, b ▸ (code_range _ _ _ _).2⟩
  · rw [hr] at e; injection e with _ e; injection e with e _; exact absurd e hh
end

end Go.Proofs.YtgebfagiomcmbaaGreatDoor
