/-
 The contracts of package walk: a path that is granted; Walk.
-/
import Derived.Test.YtmbgepafpcbakaaGreatDoorG8bK
import Derived.Test.YtmbgepafpcbakaaGreatDoorG8aK
namespace Go.Proofs.YtmbgepafpcbakaaGreatDoor
open Go.RowKit Go.Maps
set_option maxRecDepth 100000 in
set_option maxHeartbeats 8000000 in
theorem granted_acc (q : Nat) (S : List Nat) (p : Nat) (L : List Int) (h b n : Nat) (W : List Int) (page kind root : Int) (user : Bool) (w : World) (gu : GuIn w q S p L h b n W) (hW : WdW W) :
  Calls Tryz.prog 81 #[.agg #[.pointer (some ⟨q, 0, none⟩), .int .i64 page, .int .i64 kind, .bool user], .int .i64 root] w (PathR w.heap.size kind user w (grantP L.length kind user (pathP (rdG n W L) page root))) := by
 have hA0 := (Blk.new w 161 #[.pointer (some ⟨q, 0, none⟩), .int .i64 page, .int .i64 kind, .bool user]).alloc (.cells #[.slice none 0 0, .int .i64 0, .bool false, .bool false, .bool false, .bool false, .bool false] 76)
 have hR0 := Blk.new (w.alloc (.cells #[.pointer (some ⟨q, 0, none⟩), .int .i64 page, .int .i64 kind, .bool user] 161)) 76 #[.slice none 0 0, .int .i64 0, .bool false, .bool false, .bool false, .bool false, .bool false]
 rw [World.size_alloc] at hR0
 have hc0 := ((Chg.refl [] w).alloc (.cells #[.pointer (some ⟨q, 0, none⟩), .int .i64 page, .int .i64 kind, .bool user] 161)).alloc (.cells #[.slice none 0 0, .int .i64 0, .bool false, .bool false, .bool false, .bool false, .bool false] 76)
 have a0 := hA0.cell 0; have a1 := hA0.cell 1; have a2 := hA0.cell 2; have a3 := hA0.cell 3
 simp only [qA, qZ, qS] at a0 a1 a2 a3
 have gu0 := gu.self hc0
 have hpath := path_acc q S p L h b n W page kind root user _ gu0 hW
 have hsz : w.heap.size ≤ ((w.alloc (.cells #[.pointer (some ⟨q, 0, none⟩), .int .i64 page, .int .i64 kind, .bool user] 161)).alloc (.cells #[.slice none 0 0, .int .i64 0, .bool false, .bool false, .bool false, .bool false, .bool false] 76)).heap.size := hc0.size
 have hF3 : ∀ w0 : World, Calls Tryz.prog 147 #[.agg #[.pointer (some ⟨q, 0, none⟩), .int .i64 page, .int .i64 kind, .bool user], .bool true, .bool false] w0 fun e w' => e = .returned (errO kind user (some 3)) ∧ Chg [] w0 w' := fun w0 => fault_any q page kind user true false 3 w0 rfl
 have HF3 : Hid (errO kind user (some 3) = errO kind user (some 3)) := Lib.hid rfl
 generalize hf3 : errO kind user (some 3) = f3 at hF3 HF3
 clear HF3
 have HF3 : Hid (f3 = errO kind user (some 3)) := Lib.hid hf3.symm
 clear hf3
 generalize pathP (rdG n W L) page root = R at *
 go_enter Tryz.func81, Tryz.ntmps81
 go_wp2_with fail
 generalize (w.alloc (.cells #[.pointer (some ⟨q, 0, none⟩), .int .i64 page, .int .i64 kind, .bool user] 161)).alloc (.cells #[.slice none 0 0, .int .i64 0, .bool false, .bool false, .bool false, .bool false, .bool false] 76) = w1 at *
 generalize hmm : w.heap.size = m at *
 refine hpath.mono ?_
 rintro e w2 hPR
 cases R with
 | error t =>
  obtain ⟨rfl, hc2⟩ := hPR
  have hR2 := (hR0.chg_ hc2 (by simp)).alloc (.cells (pathV none 0 Pa.zero) 76)
  have hc3 := (hc0.trans hc2 (by simp)).alloc (.cells (pathV none 0 Pa.zero) 76)
  simp only [pathV, Pa.zero, List.length_nil, errO, stopV] at hR2 hc3 ⊢
  obtain ⟨r0, r1, r2, r3, r4, r5, r6, q0, q1, q2, q3, q4, q5, q6⟩ := blk7 hR2
  go_wp2_with fail
  refine bodyPost_ret (cell_tmp_ret rfl (set7 hR2) rfl Tryz.underlying76 rfl (by kernel_rfl)) rfl ?_
  exact ⟨rfl, chg7 hc3 (by omega)⟩
 | ok P =>
  obtain ⟨A, c, rfl, hrow, hc2⟩ := hPR
  have hrow2 := own_weak hrow hsz
  clear hrow hpath gu
  have hg0 : grantP L.length kind user (.ok P) = if mayB P.r kind user then (if P.g ≥ L.length then .error 0 else .ok P) else .error 3 := rfl
  obtain ⟨pats, pg, ⟨prw, pru, prx⟩, plg, pdy⟩ := P
  simp only [pathV] at hrow2 hg0 ⊢
  have hMay := fun w0 => May_any ⟨prw, pru, prx⟩ kind user w0
  simp only [Rg.cs] at hMay
  generalize mayB ⟨prw, pru, prx⟩ kind user = tb at *
  have HG := Lib.hid hg0
  clear hg0
  have hP3 := Blk.new w2 76 #[.slice A pats.length c, .int .i64 pg, .bool prw, .bool pru, .bool prx, .bool plg, .bool pdy]
  have hA3 := (hA0.chg_ hc2 (by simp)).alloc (.cells #[.slice A pats.length c, .int .i64 pg, .bool prw, .bool pru, .bool prx, .bool plg, .bool pdy] 76)
  have hR3 := (hR0.chg_ hc2 (by simp)).alloc (.cells #[.slice A pats.length c, .int .i64 pg, .bool prw, .bool pru, .bool prx, .bool plg, .bool pdy] 76)
  have gu3 := (gu0.self hc2).self ((Chg.refl [] w2).alloc (.cells #[.slice A pats.length c, .int .i64 pg, .bool prw, .bool pru, .bool prx, .bool plg, .bool pdy] 76))
  have hc3 := (hc0.trans hc2 (by simp)).alloc (.cells #[.slice A pats.length c, .int .i64 pg, .bool prw, .bool pru, .bool prx, .bool plg, .bool pdy] 76)
  have hrow3 := own_chg hrow2 ((Chg.refl [] w2).alloc (.cells #[.slice A pats.length c, .int .i64 pg, .bool prw, .bool pru, .bool prx, .bool plg, .bool pdy] 76)) (by simp)
  clear hA0 hR0 gu0 hc0 hc2 hrow2 a0 a1 a2 a3 hsz
  have a0 := hA3.cell 0; have a1 := hA3.cell 1; have a2 := hA3.cell 2; have a3 := hA3.cell 3
  simp only [qA, qZ, qS] at a0 a1 a2 a3
  obtain ⟨p0_, p1_, p2_, p3_, p4_, p5_, p6_, _, _, _, _, _, _, _⟩ := blk7 hP3
  go_wp2_with fail
  generalize w2.alloc (.cells #[.slice A pats.length c, .int .i64 pg, .bool prw, .bool pru, .bool prx, .bool plg, .bool pdy] 76) = w3 at *
  generalize w2.heap.size = pb at *
  refine (hMay _).mono ?_; rintro e w4 ⟨rfl, k4⟩
  have hP4 := hP3.chg_ k4 (by simp); have hA4 := hA3.chg_ k4 (by simp); have hR4 := hR3.chg_ k4 (by simp); have gu4 := gu3.self k4; have hc4 := hc3.trans k4 (by simp); have hrow4 := own_chg hrow3 k4 (by simp)
  clear hP3 hA3 hR3 gu3 hc3 hrow3 k4 a0 a1 a2 a3 p0_ p1_ p2_ p3_ p4_ p5_ p6_ hMay
  have a0 := hA4.cell 0; have a1 := hA4.cell 1; have a2 := hA4.cell 2; have a3 := hA4.cell 3
  simp only [qA, qZ, qS] at a0 a1 a2 a3
  cases tb with
  | false =>
   have HG3 : Hid (grantP L.length kind user (.ok ⟨pats, pg, ⟨prw, pru, prx⟩, plg, pdy⟩) = .error 3) := Lib.hid (by rw [HG.out]; rfl)
   clear HG
   go_wp2_with fail
   refine (hF3 _).mono ?_; rintro e w5 ⟨rfl, k5⟩
   have hR5 := hR4.chg_ k5 (by simp)
   obtain ⟨r0, r1, r2, r3, r4, r5, r6, q0, q1, q2, q3, q4, q5, q6⟩ := blk7 hR5
   go_wp2_with fail
   refine bodyPost_ret (cell_tmp_ret rfl (set7 hR5) rfl Tryz.underlying76 rfl (by kernel_rfl)) rfl ?_
   rw [HG3.out]
   exact ⟨by rw [HF3.out]; rfl, chg7 (hc4.trans k5 (by simp)) (by omega)⟩
  | true =>
   have p1_ := hP4.cell 1
   simp only [qA, qZ, qS] at p1_
   have hll := gu4.ok
   have k0 := fun nq : Cls w4 => nq.cell p1_
   have k1 := fun nq : Cls w4 => nq.cell a0
   have D1 : ∀ nq : Cls w4, Calls Tryz.prog 83 #[.pointer (some ⟨q, 0, none⟩)] nq.val fun e w' => e = .returned (.int .i64 L.length) ∧ Chg [] nq.val w' := fun nq => (GuFrames_at q S p L h b n W nq.val (gu4.self nq.ok)).mono fun e w' hh => ⟨hh.1, hh.2 ▸ Chg.refl [] _⟩
   clear hll
   by_cases hge : pg ≥ (L.length : Int)
   ·have HG0 : Hid (grantP L.length kind user (.ok ⟨pats, pg, ⟨prw, pru, prx⟩, plg, pdy⟩) = .error 0) := Lib.hid (by rw [HG.out, if_pos rfl, if_pos hge])
    clear HG
    go_wp2_with fail
    refine wp_region_cls (by kernel_rfl) (by kernel_rfl) ?_
    repeat (go_big_quiet_step (first | (go_at_call 83; with_reducible exact Calls.cls (D1 _))))
    refine wpQuiet_nil ?_
    rintro _ ⟨nq, rfl⟩
    have hR5 := nq.blk hR4
    have hc5 := hc4.trans nq.ok (by simp)
    obtain ⟨r0, r1, r2, r3, r4, r5, r6, q0, q1, q2, q3, q4, q5, q6⟩ := blk7 hR5
    go_wp2_with fail
    refine bodyPost_ret (cell_tmp_ret rfl (set7 hR5) rfl Tryz.underlying76 rfl (by kernel_rfl)) rfl ?_
    rw [HG0.out]
    exact ⟨rfl, chg7 hc5 (by omega)⟩
   have HG0 : Hid (grantP L.length kind user (.ok ⟨pats, pg, ⟨prw, pru, prx⟩, plg, pdy⟩) = .ok ⟨pats, pg, ⟨prw, pru, prx⟩, plg, pdy⟩) := Lib.hid (by rw [HG.out, if_pos rfl, if_neg hge])
   clear HG
   go_wp2_with fail
   refine wp_region_cls (by kernel_rfl) (by kernel_rfl) ?_
   repeat (go_big_quiet_step (first | (go_at_call 83; with_reducible exact Calls.cls (D1 _))))
   refine wpQuiet_nil ?_
   rintro _ ⟨nq, rfl⟩
   have hR5 := nq.blk hR4
   have hP5 := nq.blk hP4
   have hc5 := hc4.trans nq.ok (by simp)
   have hrow5 := own_chg hrow4 nq.ok (by simp)
   obtain ⟨r0, r1, r2, r3, r4, r5, r6, q0, q1, q2, q3, q4, q5, q6⟩ := blk7 hR5
   obtain ⟨p0_, p1b_, p2_, p3_, p4_, p5_, p6_, _, _, _, _, _, _, _⟩ := blk7 hP5
   go_wp2_with fail
   refine bodyPost_ret (cell_tmp_ret rfl (set7 hR5) rfl Tryz.underlying76 rfl (by kernel_rfl)) rfl ?_
   rw [HG0.out]
   refine ⟨A, c, rfl, own_chg hrow5 (chg7 (Chg.refl [m + 1] _) (by simp)) (fun g hg hi => ?_), chg7 hc5 (by omega)⟩
   obtain ⟨cs, hb⟩ := own_cells hrow5 g (by simp [hg])
   simp at hi; subst hi
   exact Blk.type_ne hb hR5 (by decide) rfl
def WalkR (w : World) (r : Pa × Int × Int) (e : Ending) (w' : World) : Prop :=
 ∃ A c, e = .returned (.tuple #[.agg (pathV A c r.1), .int .i64 r.2.1, .int .i64 r.2.2]) ∧ w'.ownsRow w.heap.size 104 2 (.slice A r.1.ats.length c) r.1.ats.length (flatA r.1.ats) ∧ Chg [] w w'
theorem cell_tmps_ret {P : Program} {fn : Func} {p q r : Tmp} {ty : TypeId} (h : fn.results = #[.cell p ty, .tmp q, .tmp r]) {tmps : Array Value} {w : World} {g : Nat} {t : TypeId} {cs : Array Value} {d : TypeDesc} (hb : Blk w g t cs)
  (hp : tmps.getD p undef = .pointer (some ⟨g, 0, none⟩)) (hu : P.underlying ty = some d) (hd : (match d with | .struct _ | .array _ _ => true | _ => false) = true) (hi : (P.info? ty).map (·.size) = some cs.size) :
  (results fn tmps).run P w = .ok (.tuple #[.agg cs, tmps.getD q undef, tmps.getD r undef]) w := by
 have hp' : tmps[p]?.getD undef = .pointer (some ⟨g, 0, none⟩) := by simpa using hp
 simp [results, h, hp', asAddr, run_loadVar_row w g t ty cs (0, 0) d hb hu hd hi, Result.andThen]
set_option maxRecDepth 100000 in
set_option maxHeartbeats 8000000 in
theorem Walk_at (q : Nat) (S : List Nat) (p : Nat) (L : List Int) (h b n : Nat) (W : List Int) (root page kind : Int) (user : Bool) (w : World) (hE : ErrIn w) (gu : GuIn w q S p L h b n W) (hW : WdW W) :
  Calls Tryz.prog 35 #[.pointer (some ⟨q, 0, none⟩), .int .i64 root, .int .i64 page, .int .i64 kind, .bool user] w (WalkR w (walkP n W L root page kind user)) := by
 have hR0 := Blk.new w 76 #[.slice none 0 0, .int .i64 0, .bool false, .bool false, .bool false, .bool false, .bool false]
 have hc0 := (Chg.refl [] w).alloc (.cells #[.slice none 0 0, .int .i64 0, .bool false, .bool false, .bool false, .bool false, .bool false] 76)
 have hgr := granted_acc q S p L h b n W page kind root user _ (gu.self hc0) hW
 have HWP : Hid (walkP n W L root page kind user = outP kind user (grantP L.length kind user (pathP (rdG n W L) page root))) := Lib.hid rfl
 generalize grantP L.length kind user (pathP (rdG n W L) page root) = R at *
 have hsz : w.heap.size ≤ (w.alloc (.cells #[.slice none 0 0, .int .i64 0, .bool false, .bool false, .bool false, .bool false, .bool false] 76)).heap.size := hc0.size
 have hE0 : ErrIn (w.alloc (.cells #[.slice none 0 0, .int .i64 0, .bool false, .bool false, .bool false, .bool false, .bool false] 76)) := (hc0.cell (World.block_lt_of_cell? _ _ hE) (by simp)).trans hE
 go_enter Tryz.func35, Tryz.ntmps35
 go_wp2_with fail
 generalize w.alloc (.cells #[.slice none 0 0, .int .i64 0, .bool false, .bool false, .bool false, .bool false, .bool false] 76) = w1 at *
 have HM : Hid (w.heap.size = w.heap.size) := Lib.hid rfl
 generalize hmm : w.heap.size = m at *
 refine hgr.mono ?_
 rintro e w2 hPR
 cases R with
 | error t =>
  obtain ⟨rfl, hc2⟩ := hPR
  have hR3 := ((hR0.chg_ hc2 (by simp)).alloc (.cells (pathV none 0 Pa.zero) 76)).alloc (.cells #[.int .i64 0, .int .i64 0] 164)
  have hc3 := ((hc0.trans hc2 (by simp)).alloc (.cells (pathV none 0 Pa.zero) 76)).alloc (.cells #[.int .i64 0, .int .i64 0] 164)
  have hE2 : ErrIn w2 := (hc2.cell (World.block_lt_of_cell? _ _ hE0) (by simp)).trans hE0
  have hS3 := Blk.new (w2.alloc (.cells (pathV none 0 Pa.zero) 76)) 164 #[.int .i64 0, .int .i64 0]
  rw [World.size_alloc] at hS3
  have hc23 := ((Chg.refl [] w2).alloc (.cells (pathV none 0 Pa.zero) 76)).alloc (.cells #[.int .i64 0, .int .i64 0] 164)
  have hE3 : ErrIn _ := (hc23.cell (World.block_lt_of_cell? _ _ hE2) (by simp)).trans hE2
  have hml : m < w2.heap.size := by have := hR0.lt; have := hc2.size; omega
  simp only [pathV, Pa.zero, List.length_nil, errO, stopV] at hR3 hc3 hS3 hE3 ⊢
  have hAs := as_hit (stopOf kind user t).1 (stopOf kind user t).2 _ _ _ _ hE3 hS3
  have HWQ : Hid (walkP n W L root page kind user = (Pa.zero, (stopOf kind user t).1, (stopOf kind user t).2)) := Lib.hid (by rw [HWP.out]; rfl)
  clear HWP hE3 hS3 hc23 hE2 hE0 hgr
  generalize (stopOf kind user t).1 = sh at *
  generalize (stopOf kind user t).2 = sc at *
  go_wp2_with fail
  refine hAs.mono ?_; rintro e w4 ⟨rfl, k4, hS4⟩
  have hR4 := hR3.chg_ k4 (by simp; omega)
  have hc4 : Chg [] w w4 := hc3.trans k4 (by intro i hi hm; simp at hm; omega)
  clear hAs hR3 hc3 k4
  generalize w2.heap.size + 1 = sb at *
  have s0 := hS4.cell 0; have s1 := hS4.cell 1
  simp only [qA, qZ, qS] at s0 s1
  obtain ⟨r0, r1, r2, r3, r4, r5, r6, q0, q1, q2, q3, q4, q5, q6⟩ := blk7 hR4
  have hne : ¬ m = sb := fun e => by subst e; exact Blk.type_ne hR4 hS4 (by decide) rfl
  have hne' : ¬ sb = m := fun e => hne e.symm
  go_wp2_with fail
  go_region
  go_wp2_with fail
  refine bodyPost_ret (cell_tmps_ret rfl ((set7 hR4).drew) rfl Tryz.underlying76 rfl (by kernel_rfl)) rfl ?_
  rw [HWQ.out]
  exact ⟨none, 0, rfl, World.ownsRow_nil _ _ _ _, (chg7 hc4 (by omega)).drew⟩
 | ok P =>
  obtain ⟨A, c, rfl, hrow, hc2⟩ := hPR
  have hrow2 := own_weak hrow hsz
  have hR3 := ((hR0.chg_ hc2 (by simp)).alloc (.cells (pathV A c P) 76)).alloc (.cells #[.int .i64 0, .int .i64 0] 164)
  have hP3 := (Blk.new w2 76 (pathV A c P)).alloc (.cells #[.int .i64 0, .int .i64 0] 164)
  have hc23 := ((Chg.refl [] w2).alloc (.cells (pathV A c P) 76)).alloc (.cells #[.int .i64 0, .int .i64 0] 164)
  have hc3 := ((hc0.trans hc2 (by simp)).alloc (.cells (pathV A c P) 76)).alloc (.cells #[.int .i64 0, .int .i64 0] 164)
  have hrow3 := own_chg hrow2 hc23 (by simp)
  have HWQ : Hid (walkP n W L root page kind user = (P, 0, 0)) := Lib.hid (by rw [HWP.out]; rfl)
  clear HWP hrow hrow2 hc23 hE0 hgr hR0 hc0 hc2
  obtain ⟨pats, pg, ⟨prw, pru, prx⟩, plg, pdy⟩ := P
  simp only [pathV] at *
  obtain ⟨p0_, p1_, p2_, p3_, p4_, p5_, p6_, _, _, _, _, _, _, _⟩ := blk7 hP3
  obtain ⟨r0, r1, r2, r3, r4, r5, r6, q0, q1, q2, q3, q4, q5, q6⟩ := blk7 hR3
  go_wp2_with fail
  refine (as_nil _ _).mono ?_; rintro e w4 ⟨rfl, rfl⟩
  go_wp2_with fail
  refine bodyPost_ret (cell_tmps_ret rfl (set7 hR3) rfl Tryz.underlying76 rfl (by kernel_rfl)) rfl ?_
  rw [HWQ.out]
  refine ⟨A, c, rfl, ?_, chg7 hc3 (by omega)⟩
  rw [hmm]
  refine own_chg hrow3 (chg7 (Chg.refl [m] _) (by simp)) (fun g hg hi => ?_)
  obtain ⟨cs, hb⟩ := own_cells hrow3 g (by simp [hg])
  simp at hi; subst hi
  exact Blk.type_ne hb hR3 (by decide) rfl
end Go.Proofs.YtmbgepafpcbakaaGreatDoor
