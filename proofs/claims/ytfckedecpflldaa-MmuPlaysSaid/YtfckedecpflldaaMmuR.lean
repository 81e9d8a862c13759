/-
  The document's host's machine: Walk.
-/
import Derived.Test.YtfckedecpflldaaMmuA
import Derived.Test.YtfckedecpflldaaRTlbs
import Derived.Test.YtfckedecpflldaaLate
import Derived.BigQuiet
import Derived.Deep.CutRange
namespace Go.Proofs.Ytfckedecpflldaa
open Go.RowKit

/-- three cells of a block turn -/
theorem SepC.put3 {w0 w : World} {l : List Th} {g : Nat} {ty : TypeId} {a b c : Value} (H : SepC w0 w (blkT g ty #[a, b, c] :: l)) (x y z : Value) : SepC w0 (((w.setCell ⟨g, 0, none⟩ x).setCell ⟨g, 1, none⟩ y).setCell ⟨g, 2, none⟩ z) (blkT g ty #[x, y, z] :: l) := by
  have hb := H.blk
  refine H.step (S := [g]) (S' := [g]) (fun _ h => h.1) ((((Chg.refl [g] w).setCell (p := ⟨g, 0, none⟩) (by simp) x).setCell (p := ⟨g, 1, none⟩) (by simp) y).setCell (p := ⟨g, 2, none⟩) (by simp) z) ⟨rfl, ?_⟩ fun i hi => .inl hi
  have := ((hb.set_ 0 x).set_ 1 y).set_ 2 z
  simpa using this
/-- its cells -/
theorem blk3f {w : World} {g : Nat} {t : TypeId} {a b c : Value} (h : Blk w g t #[a, b, c]) : (w.cell? ⟨g, 0, none⟩ = some a ∧ w.cell? ⟨g, 1, none⟩ = some b ∧ w.cell? ⟨g, 2, none⟩ = some c) ∧ w.frozen? ⟨g, 0, none⟩ = false ∧ w.frozen? ⟨g, 1, none⟩ = false ∧ w.frozen? ⟨g, 2, none⟩ = false :=
  ⟨⟨h.cell 0, h.cell 1, h.cell 2⟩, h.frozen 0, h.frozen 1, h.frozen 2⟩

set_option maxRecDepth 100000 in
set_option maxHeartbeats 1000000 in
theorem RMod_any (p : Int) (w : World) : Calls Try.prog 43 #[.int .i64 p] w fun e w' => e = .returned (.int .i64 (p % 512)) ∧ Chg [] w w' := by
  have hJ := fun w' => RJoin_any p 0 w'
  have hlt : joinN p 0 < 18446744073709551616 := by unfold joinN canonN; split <;> omega
  have hP := fun w' => RPage_any (joinN p 0) w' hlt
  rw [join_mod] at hP
  clear hlt
  generalize joinN p 0 = J at *
  generalize p % 512 = m at *
  go_enter Try.func43, Try.ntmps43
  go_wp2_with fail
  refine (hJ _).mono ?_; rintro e w2 ⟨rfl, y2⟩
  go_wp2_with fail
  refine (hP _).mono ?_; rintro e w3 ⟨rfl, y3⟩
  go_wp2_with fail
  go_ret
  exact ⟨rfl, y2.chg.trans y3.chg (by simp)⟩

set_option maxRecDepth 100000 in
set_option maxHeartbeats 8000000 in
theorem RWalkH_any {m rp rb t n : Nat} {W : List Int} (root page : Int) (w : World) (hB : Blk w m 87 #[.pointer (some ⟨rp, 0, none⟩), .pointer (some ⟨t, 0, none⟩)]) (hM : RMemAt w rp rb n W) (hW : WdW W) :
    Calls Try.prog 24 #[.pointer (some ⟨m, 0, none⟩), .int .i64 root, .int .i64 page] w fun e w' => e = .returned (.tuple #[.int .i64 (walkF n W root page), .agg (walkR n W root page).cs, .bool (walkH n W root page).isSome]) ∧ Chg [] w w' := by
  have hA := fun w' => RAll_any w'
  simp only [Rg.all, Rg.cs] at hA
  simp only [Rg.cs]
  have H0 := (SepC.nil w).alloc #[.bool false, .bool false, .bool false] 47
  obtain ⟨gz, hgz⟩ : ∃ gz, w.heap.size = gz := ⟨_, rfl⟩
  rw [hgz] at H0
  have y0 := H0.1
  generalize hw1 : w.alloc (.cells #[.bool false, .bool false, .bool false] 47) = w1 at *
  replace hw1 := Lib.hid hw1
  go_enter Try.func24, Try.ntmps24
  go_wp2_with fail
  (try rw [hw1.out])
  refine (hA _).mono ?_; rintro e w2 ⟨rfl, y2⟩
  clear hA
  have H2 := (H0.new y2).alloc #[.bool true, .bool true, .bool true] 47
  clear H0 y2 y0 hw1
  go_upto_region 3 with fail
  generalize w2.alloc (.cells #[.bool true, .bool true, .bool true] 47) = w3 at *
  generalize w2.heap.size = rc at *
  clear w2 w1
  (try rw [hgz])
  replace hgz := Lib.hid hgz
  go_wp2_with fail
  go_loopw [9, 11] (fun s9 s11 wr => ∃ (k : Nat) (f : Int) (r : Rg), k ≤ 3 ∧ s9 = .int .i64 f ∧ s11 = .int .i64 (3 - (k : Int)) ∧ walkK n W root page k = some (f, r) ∧ SepC w wr (blkT rc 47 #[.bool r.w, .bool r.u, .bool r.x] :: blkT gz 47 #[.bool false, .bool false, .bool false] :: [])) (fun _ s11 _ => (intOf s11).toNat)
  case atStart => exact ⟨0, root, Rg.all, by omega, rfl, rfl, rfl, H2⟩
  case round =>
    obtain ⟨k, f, ⟨rw_, ru, rx⟩, hk, rfl, rfl, hwk, H⟩ := hrel
    simp only at H
    clear H2
    by_cases hlt : k < 3
    · have hge : decide ((3 : Int) - (k : Int) ≥ 1) = true := decide_eq_true (by omega)
      have hM' := hM.chg H.1 (by simp) (by simp)
      have hB' := H.1.blk hB (by simp)
      have c0 := hB'.cell 0
      simp only [List.getElem?_toArray, List.getElem?_cons_zero] at c0
      obtain ⟨hgv, hgl⟩ := hW.nat_ n f (idxI page (3 - (k : Int)))
      have HI := fun nq : Cls wr => (RIdx_any page (3 - (k : Int)) nq.val).mono fun _ _ ⟨h1, h2⟩ => (⟨h1, h2.chg⟩ : _ ∧ Chg [] nq.val _)
      have HG : ∀ nq : Cls wr, Calls Try.prog 54 #[.pointer (some ⟨rp, 0, none⟩), .int .i64 f, .int .i64 (idxI page (3 - (k : Int)))] nq.val fun e w' => e = .returned (.tuple #[.int .u64 (getW n W f (idxI page (3 - (k : Int)))), .bool (hasW n f (idxI page (3 - (k : Int))))]) ∧ Chg [] nq.val w' := fun nq => (RGet_at rp rb n W f (idxI page (3 - (k : Int))) nq.val (hM'.chg nq.ok (by simp) (by simp))).mono fun _ _ ⟨h1, h2⟩ => ⟨h1, by subst h2; exact Chg.refl _ _⟩
      have HE := fun w' => RGet_any (getW n W f (idxI page (3 - (k : Int)))).toNat w' hgl
      have hyes := fun h1 h2 => walkK_go (k := k) hwk (rd_yes (n := n) (W := W) (f := f) (i := idxI page (3 - (k : Int))) h1 h2)
      have hnot := fun h => walkK_stop (k := k) hlt hwk (rd_no (n := n) (W := W) (f := f) (i := idxI page (3 - (k : Int))) h)
      rw [← hgv] at HG
      clear hgv hgl
      generalize (getW n W f (idxI page (3 - (k : Int)))).toNat = v at *
      generalize hasW n f (idxI page (3 - (k : Int))) = is at *
      generalize idxI page (3 - (k : Int)) = ix at *
      generalize getE v = ent at *
      obtain ⟨ep, ew, eu, ea, ed, es, en, eb, ef⟩ := ent
      simp only [ofE, Rg.and] at hyes
      simp only [Ent.cs] at HE
      simp only at hnot
      have K0 := fun nq : Cls wr => nq.cell c0
      clear c0 hM' hB'
      go_upto_region 6 with fail
      refine wp_region_cls (by kernel_rfl) (by kernel_rfl) ?_
      repeat (go_big_quiet_step (first | (go_at_call 55; with_reducible exact Calls.cls (HI _)) | (go_at_call 54; with_reducible exact Calls.cls (HG _))))
      refine wpQuiet_nil ?_
      rintro _ ⟨nq, rfl⟩
      have H3 := H.new nq.ok
      clear H HI HG K0
      generalize nq.val = w4 at *
      clear nq
      go_wp2_with fail
      refine (HE _).mono ?_; rintro e w5 ⟨rfl, y5⟩
      clear HE
      have H4 := (H3.new y5).alloc #[.bool ep, .bool ew, .bool eu, .bool ea, .bool ed, .bool es, .bool en, .bool eb, .int .i64 ef] 98
      clear H3 y5
      go_upto_region 8 with fail
      generalize w5.alloc (.cells #[.bool ep, .bool ew, .bool eu, .bool ea, .bool ed, .bool es, .bool en, .bool eb, .int .i64 ef] 98) = w6 at *
      generalize w5.heap.size = ge at *
      clear w5 w4
      have be := H4.blk
      have br := (H4.pick 1 rfl).blk
      have bz := (H4.pick 2 rfl).blk
      have e0 := be.cell 0; have e8 := be.cell 8
      simp only [List.getElem?_toArray, List.getElem?_cons_zero, List.getElem?_cons_succ] at e0 e8
      obtain ⟨⟨z0, z1, z2⟩, f0, f1, f2⟩ := blk3f bz
      cases is
      · have hst := hnot (.inl rfl)
        clear hyes hnot
        go_wp2_with fail
        have bz' := ((bz.set_ 0 (.bool false)).set_ 1 (.bool false)).set_ 2 (.bool false)
        have hy := (((H4.pick 2 rfl).put3 (.bool false) (.bool false) (.bool false))).1
        obtain ⟨q1, q2, q3⟩ := walk_not hst
        exact bodyPost_ret (tct_ret rfl (show Blk _ gz 47 #[.bool false, .bool false, .bool false] from by simpa using bz') rfl rfl rfl Try.underlying47 rfl (by kernel_rfl)) rfl ⟨by rw [q1, q2, q3]; rfl, hy⟩
      cases ep
      · have hst := hnot (.inr rfl)
        clear hyes hnot
        go_wp2_with fail
        have bz' := ((bz.set_ 0 (.bool false)).set_ 1 (.bool false)).set_ 2 (.bool false)
        have hy := (((H4.pick 2 rfl).put3 (.bool false) (.bool false) (.bool false))).1
        obtain ⟨q1, q2, q3⟩ := walk_not hst
        exact bodyPost_ret (tct_ret rfl (show Blk _ gz 47 #[.bool false, .bool false, .bool false] from by simpa using bz') rfl rfl rfl Try.underlying47 rfl (by kernel_rfl)) rfl ⟨by rw [q1, q2, q3]; rfl, hy⟩
      · have hst := hyes rfl rfl
        clear hyes hnot
        obtain ⟨⟨p0, p1, p2⟩, g0, g1, g2⟩ := blk3f br
        have hOf := fun w' => ROf_any true ew eu ea ed es en eb ef w'
        have hMt := fun (g : Nat) w' (hb : Blk w' g 47 #[.bool rw_, .bool ru, .bool rx, .bool ew, .bool eu, .bool !en]) => RMeet_any (some ⟨g, 0, none⟩) 2 2 [⟨rw_, ru, rx⟩, ⟨ew, eu, !en⟩] w' (SlR.made2 _ _ hb) (by decide)
        simp only [meet2, Rg.and, Rg.cs] at hMt
        go_upto_region 10 with fail
        clear f0 f1 f2 z0 z1 z2 bz p0 p1 p2 g0 g1 g2 e0 e8
        refine wp_region_noPanic ?_
        refine late_region (S := (fun w' => Chg [] w6 w')) (Z := 5) (by kernel_rfl) ((Chg.refl [] w6).drew) (fun hHeld => ?_)
        have yy := hHeld
        clear hHeld
        have hHeld := yy
        (refine late_on 0 (some 43) (v := ?_) rfl rfl (by kernel_rfl) (by kernel_rfl) (by kernel_rfl) (by kernel_rfl) (fun _ _ _ h => h) (by rfl) (by assumption) ?_ ?_; rotate_left; · (intro w hSw; (try dsimp only at hSw); have b_ := hSw.blk br (by simp); obtain ⟨⟨p0, p1, p2⟩, _⟩ := blk3f b_; go_simp; (try with_reducible rfl)))
        (try simp only [Act.put, List.setIfInBounds_toArray, List.set_cons_zero, List.set_cons_succ])
        (refine late_on 1 (some 44) (v := ?_) rfl rfl (by kernel_rfl) (by kernel_rfl) (by kernel_rfl) (by kernel_rfl) (fun _ _ _ h => h) (by rfl) (by assumption) ?_ ?_; rotate_left; · (intro w hSw; (try dsimp only at hSw); have b_ := hSw.blk be (by simp); have e0 := b_.cell 0; have e1 := b_.cell 1; have e2 := b_.cell 2; have e3 := b_.cell 3; have e4 := b_.cell 4; have e5 := b_.cell 5; have e6 := b_.cell 6; have e7 := b_.cell 7; have e8 := b_.cell 8; simp only [List.getElem?_toArray, List.getElem?_cons_zero, List.getElem?_cons_succ] at e0 e1 e2 e3 e4 e5 e6 e7 e8; go_simp; (try with_reducible rfl)))
        (try simp only [Act.put, List.setIfInBounds_toArray, List.set_cons_zero, List.set_cons_succ])
        refine late_ready (rs := [2]) (by kernel_rfl) (by simp) ?_; refine AllLate.cons (o := _) rfl (fun K hK => ?_) AllLate.nil
        go_simp
        (go_at_call 58; refine (hOf _).mono ?_; rintro e u1 ⟨rfl, k1⟩)
        replace yy := yy.trans k1 (by simp)
        clear k1 hHeld
        refine hK.out _ _ (fun _ => by (try dsimp only); exact yy) ?_
        clear hK K
        (try simp only [Act.put, List.setIfInBounds_toArray, List.set_cons_zero, List.set_cons_succ])
        refine late_ready (rs := [3]) (by kernel_rfl) (by simp) ?_; refine AllLate.cons (o := _) rfl (fun K hK => ?_) AllLate.nil
        go_simp
        have bm := Blk.new u1 47 #[.bool rw_, .bool ru, .bool rx, .bool ew, .bool eu, .bool !en]
        replace yy := yy.alloc (.cells #[.bool rw_, .bool ru, .bool rx, .bool ew, .bool eu, .bool !en] 47)
        refine hK.out _ _ (fun _ => by (try dsimp only); exact yy) ?_
        clear hK K
        (try simp only [Act.put, List.setIfInBounds_toArray, List.set_cons_zero, List.set_cons_succ])
        generalize u1.alloc (.cells #[.bool rw_, .bool ru, .bool rx, .bool ew, .bool eu, .bool !en] 47) = u2 at *
        generalize u1.heap.size = gm at *
        refine late_ready (rs := [4]) (by kernel_rfl) (by simp) ?_; refine AllLate.cons (o := _) rfl (fun K hK => ?_) AllLate.nil
        go_simp
        (go_at_call 57; refine (hMt gm _ bm).mono ?_; rintro e u3 ⟨rfl, k3⟩)
        replace yy := yy.trans k3 (by simp)
        clear k3 bm
        refine hK.out _ _ (fun _ => by (try dsimp only); exact yy) ?_
        clear hK K
        (try simp only [Act.put, List.setIfInBounds_toArray, List.set_cons_zero, List.set_cons_succ])
        have H5 := (H4.new yy).pick 1 rfl
        have be5 := (H5.pick 1 rfl).blk
        have br5 := H5.blk
        obtain ⟨⟨p0, p1, p2⟩, g0, g1, g2⟩ := blk3f br5
        clear yy H4 be br br5 hOf hMt
        refine late_ready (rs := [5]) (by kernel_rfl) (by simp) ?_; refine AllLate.cons (o := _) rfl (fun K hK => ?_) AllLate.nil
        go_simp
        refine hK.out _ _ (fun e => absurd rfl e) ?_
        clear hK K
        (try simp only [Act.put, List.setIfInBounds_toArray, List.set_cons_zero, List.set_cons_succ])
        refine late_done (by kernel_rfl) ?_ _
        refine NoPanic.normal ?_
        clear p0 p1 p2 g0 g1 g2
        have H6 := H5.put3 (.bool (rw_ && ew)) (.bool (ru && eu)) (.bool (rx && !en))
        generalize ((u3.setCell ⟨rc, 0, none⟩ (.bool (rw_ && ew))).setCell ⟨rc, 1, none⟩ (.bool (ru && eu))).setCell ⟨rc, 2, none⟩ (.bool (rx && !en)) = w7 at *
        have be7 := (H6.pick 1 rfl).blk
        have e8 := be7.cell 8
        simp only [List.getElem?_toArray, List.getElem?_cons_zero, List.getElem?_cons_succ] at e8
        clear be5 H5 be7
        replace H6 : SepC w w7 (blkT rc 47 #[.bool (rw_ && ew), .bool (ru && eu), .bool (rx && !en)] :: blkT gz 47 #[.bool false, .bool false, .bool false] :: []) := (H6.pick 1 rfl).tail
        go_wp2_with fail
        go_roundw
        case rel => exact ⟨k + 1, ef, ⟨rw_ && ew, ru && eu, rx && !en⟩, by omega, rfl, by go_num, hst, H6⟩
        case measure => simp [intOf]; omega
    · obtain rfl : k = 3 := by omega
      have hge : decide ((3 : Int) - ((3 : Nat) : Int) ≥ 1) = false := by decide
      rw [walkK_3] at hwk
      obtain ⟨q1, q2, q3⟩ := walk_is hwk
      have br := H.blk
      have bz := (H.pick 1 rfl).blk
      obtain ⟨⟨p0, p1, p2⟩, _⟩ := blk3f br
      obtain ⟨⟨z0, z1, z2⟩, f0, f1, f2⟩ := blk3f bz
      have hz := (H.pick 1 rfl).put3 (.bool rw_) (.bool ru) (.bool rx)
      go_wp2_with fail
      go_region
      go_wp2_with fail
      exact bodyPost_ret (tct_ret rfl (hz.blk.drew) rfl rfl rfl Try.underlying47 rfl (by kernel_rfl)) rfl ⟨by rw [q1, q2, q3]; rfl, hz.1.drew⟩

end Go.Proofs.Ytfckedecpflldaa
