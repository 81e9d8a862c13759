/-
  The program's host's machine: Walk.
-/
import Derived.Test.YtfckedecpflldaaMmuE
import Derived.WalkMore
import Derived.ScopeJumps
namespace Go.Proofs.Ytfckedecpflldaa
open Go.RowKit

/-- a goto that goes back: what the first pass comes to at the label is what each later pass comes to -/
theorem scope_back {P : Program} {a : Act} {w : World} {Q : Exit → Act → World → Prop} {c X : Code} (l : Nat) (J : Act → World → Prop) (μ : Act → World → Nat) (hf : findLabel c l = some (Code.skip.seq X))
    (first : ∀ Q', (∀ a w, J a w → X.wp P Q' a w) → (∀ e a w, (∀ n, e ≠ .goto n) → Q e a w → Q' e a w) → c.wp P Q' a w)
    (pass : ∀ a w, J a w → X.wp P (Exit.jump l (fun a' w' => J a' w' ∧ μ a' w' < μ a w) Q) a w) : (Code.scope c).wp P Q a w :=
  wp_scope_jumps l J μ hf (first _ (fun a w hj => wp_mono (pass a w hj) fun e a w hq => by
    cases e with
    | goto l' => exact ⟨hq.1, hq.2.1⟩
    | _ => exact hq) fun e a w hne hq => by
    cases e with
    | goto l' => exact absurd rfl (hne l')
    | _ => exact hq) fun a w hj => wp_seq (wp_skip (pass a w hj))
theorem rd_is {n : Nat} {W : List Int} {f i : Int} {e : Ent} (h : rdH n W f i = some e) : getE (getW n W f i).toNat = e ∧ e.p = true := by
  unfold rdH at h
  split at h
  · rename_i h2
    simp only [Option.some.injEq] at h
    rw [Bool.and_eq_true] at h2
    exact ⟨h, h ▸ h2.2⟩
  · cases h

/-- what holds at the label -/
def AtDown (n : Nat) (W : List Int) (root page : Int) (m gz : Nat) (w : World) (a' : Act) (w' : World) : Prop := ∃ (k : Nat) (f : Int) (r : Rg) (rc : Nat) (u3_ u4_ u5_ u12_ u13_ u14_ u15_ u16_ u17_ u18_ u19_ u20_ u21_ u22_ u23_ u24_ u25_ u26_ u27_ u28_ u29_ u30_ u31_ u32_ u33_ u34_ u35_ u36_ u37_ u38_ u39_ : Value), k < 3 ∧ a' = { tmps := #[.pointer (some ⟨m, 0, none⟩), .int .i64 root, .int .i64 page, u3_, u4_, u5_, .int .i64 0, .pointer (some ⟨gz, 0, none⟩), .bool false, .int .i64 f, .pointer (some ⟨rc, 0, none⟩), .int .i64 (3 - (k : Int)), u12_, u13_, u14_, u15_, u16_, u17_, u18_, u19_, u20_, u21_, u22_, u23_, u24_, u25_, u26_, u27_, u28_, u29_, u30_, u31_, u32_, u33_, u34_, u35_, u36_, u37_, u38_, u39_], defers := [] } ∧ walkK n W root page k = some (f, r) ∧ SepC w w' (blkT rc 47 #[.bool r.w, .bool r.u, .bool r.x] :: blkT gz 47 #[.bool false, .bool false, .bool false] :: [])

set_option maxRecDepth 100000 in
set_option maxHeartbeats 8000000 in
theorem Walk_any {m hp hb t n : Nat} {W : List Int} (root page : Int) (w : World) (hB : Blk w m 85 (mmC t hp)) (hM : MemAt w hp hb n W) (hW : WdW W) :
    Calls Try.prog 23 #[.pointer (some ⟨m, 0, none⟩), .int .i64 root, .int .i64 page] w fun e w' => e = .returned (.tuple #[.int .i64 (walkF n W root page), .agg (walkR n W root page).cs, .bool (walkH n W root page).isSome]) ∧ Chg [] w w' := by
  have hA := fun w' => All_any w'
  simp only [Rg.all, Rg.cs] at hA
  simp only [Rg.cs]
  have H0 := (SepC.nil w).alloc #[.bool false, .bool false, .bool false] 47
  obtain ⟨gz, hgz⟩ : ∃ gz, w.heap.size = gz := ⟨_, rfl⟩
  rw [hgz] at H0
  have y0 := H0.1
  generalize hw1 : w.alloc (.cells #[.bool false, .bool false, .bool false] 47) = w1 at *
  replace hw1 := Lib.hid hw1
  go_enter Try.func23, Try.ntmps23
  go_wp2
  refine scope_back 0 (AtDown n W root page m gz w) (fun a' _ => (intOf (a'.tmps.getD 11 undef)).toNat) rfl ?_ ?_
  · intro Q' hJ hQ'
    go_wp2_with fail
    (try rw [hw1.out])
    refine (hA _).mono ?_; rintro e w2 ⟨rfl, y2⟩
    clear hA
    have H2 := (H0.new y2).alloc #[.bool true, .bool true, .bool true] 47
    clear H0 y2 y0 hw1
    go_wp2_with fail
    (try rw [hgz])
    go_step3
    rename_i hK_
    exact hK_ _ _ (hJ _ _ ⟨0, root, Rg.all, _, _, _, _, _, _, _, _, _, _, _, _, _, _, _, _, _, _, _, _, _, _, _, _, _, _, _, _, _, _, _, _, by omega, rfl, rfl, H2⟩)
  · rintro a' w4 ⟨k, f, ⟨rw_, ru, rx⟩, rc, u3_, u4_, u5_, u12_, u13_, u14_, u15_, u16_, u17_, u18_, u19_, u20_, u21_, u22_, u23_, u24_, u25_, u26_, u27_, u28_, u29_, u30_, u31_, u32_, u33_, u34_, u35_, u36_, u37_, u38_, u39_, hlt, rfl, hwk, H⟩
    have hM' := hM.chg H.1 (by simp) (by simp)
    have hB' := H.1.blk hB (by simp)
    have hE := Entry_any f page (3 - (k : Int)) w4 (by omega) (by omega) hB' hM' hW
    clear hB' hM'
    cases hr : rdH n W f (idxI page (3 - (k : Int))) with
    | none =>
      have hst := walkK_stop hlt hwk hr
      rw [hr] at hE
      generalize getE (getW n W f (idxI page (3 - (k : Int)))).toNat = ent at *
      obtain ⟨ep, ew, eu, ea, ed, es, en, eb, ef⟩ := ent
      simp only [Ent.cs, Option.isSome_none] at hE
      go_wp2_with fail
      refine hE.mono ?_; rintro e w5 ⟨rfl, y5⟩
      clear hE
      have H4 := (H.new y5).alloc #[.bool ep, .bool ew, .bool eu, .bool ea, .bool ed, .bool es, .bool en, .bool eb, .int .i64 ef] 98
      clear H y5
      have bz := (H4.pick 2 rfl).blk
      obtain ⟨⟨z0, z1, z2⟩, f0, f1, f2⟩ := blk3f bz
      go_wp2_with fail
      obtain ⟨q1, q2, q3⟩ := walk_not hst
      (try simp only [Exit.jump])
      exact bodyPost_ret (tct_ret rfl (set3m (y0 := .bool false) (y1 := .bool false) (y2 := .bool false) bz) rfl rfl rfl Try.underlying47 rfl (by kernel_rfl)) rfl ⟨by rw [q1, q2, q3]; rfl, (chg3m H4.1 (fun h => absurd h (by omega)))⟩
    | some ent =>
      have hst := walkK_go hwk hr
      obtain ⟨hg, hp_⟩ := rd_is hr
      rw [hr, hg] at hE
      clear hg
      obtain ⟨ep, ew, eu, ea, ed, es, en, eb, ef⟩ := ent
      simp only at hp_
      subst hp_
      simp only [ofE, Rg.and] at hst
      simp only [Ent.cs, Option.isSome_some] at hE
      go_wp2_with fail
      refine hE.mono ?_; rintro e w5 ⟨rfl, y5⟩
      clear hE
      have H4 := (H.new y5).alloc #[.bool true, .bool ew, .bool eu, .bool ea, .bool ed, .bool es, .bool en, .bool eb, .int .i64 ef] 98
      clear H y5
      go_upto_region 5 with fail
      generalize w5.alloc (.cells #[.bool true, .bool ew, .bool eu, .bool ea, .bool ed, .bool es, .bool en, .bool eb, .int .i64 ef] 98) = w6 at *
      generalize w5.heap.size = ge at *
      clear w5
      have be := H4.blk
      have br := (H4.pick 1 rfl).blk
      have hOf := fun w' => Of_any true ew eu ea ed es en eb ef w'
      have hMt := fun (g : Nat) w' (hb : Blk w' g 47 #[.bool rw_, .bool ru, .bool rx, .bool ew, .bool eu, .bool !en]) => Meet_any (some ⟨g, 0, none⟩) 2 2 [⟨rw_, ru, rx⟩, ⟨ew, eu, !en⟩] w' (SlR.made2 _ _ hb) (by decide)
      simp only [meet2, Rg.and, Rg.cs] at hMt
      refine wp_region_noPanic ?_
      refine late_region (S := (fun w' => Chg [] w6 w')) (Z := 8) (by kernel_rfl) ((Chg.refl [] w6).drew) (fun hHeld => ?_)
      have yy := hHeld
      clear hHeld
      have hHeld := yy
      (refine late_on 0 (some 27) (v := ?_) rfl rfl (by kernel_rfl) (by kernel_rfl) (by kernel_rfl) (by kernel_rfl) (fun _ _ _ h => h) (by rfl) (by assumption) ?_ ?_; rotate_left; · (intro w hSw; go_simp; (try with_reducible rfl)))
      (try simp only [Act.put, List.setIfInBounds_toArray, List.set_cons_zero, List.set_cons_succ])
      (refine late_on 1 (some 28) (v := ?_) rfl rfl (by kernel_rfl) (by kernel_rfl) (by kernel_rfl) (by kernel_rfl) (fun _ _ _ h => h) (by rfl) (by assumption) ?_ ?_; rotate_left; · (intro w hSw; (try dsimp only at hSw); have b_ := hSw.blk be (by simp); have e0 := b_.cell 0; have e1 := b_.cell 1; have e2 := b_.cell 2; have e3 := b_.cell 3; have e4 := b_.cell 4; have e5 := b_.cell 5; have e6 := b_.cell 6; have e7 := b_.cell 7; have e8 := b_.cell 8; simp only [List.getElem?_toArray, List.getElem?_cons_zero, List.getElem?_cons_succ] at e0 e1 e2 e3 e4 e5 e6 e7 e8; go_simp; (try with_reducible rfl)))
      (try simp only [Act.put, List.setIfInBounds_toArray, List.set_cons_zero, List.set_cons_succ])
      (refine late_on 2 (some 29) (v := ?_) rfl rfl (by kernel_rfl) (by kernel_rfl) (by kernel_rfl) (by kernel_rfl) (fun _ _ _ h => h) (by rfl) (by assumption) ?_ ?_; rotate_left; · (intro w hSw; (try dsimp only at hSw); have b_ := hSw.blk br (by simp); obtain ⟨⟨p0, p1, p2⟩, _⟩ := blk3f b_; go_simp; (try with_reducible rfl)))
      (try simp only [Act.put, List.setIfInBounds_toArray, List.set_cons_zero, List.set_cons_succ])
      (refine late_on 3 (some 30) (v := ?_) rfl rfl (by kernel_rfl) (by kernel_rfl) (by kernel_rfl) (by kernel_rfl) (fun _ _ _ h => h) (by rfl) (by assumption) ?_ ?_; rotate_left; · (intro w hSw; (try dsimp only at hSw); have b_ := hSw.blk be (by simp); have e0 := b_.cell 0; have e1 := b_.cell 1; have e2 := b_.cell 2; have e3 := b_.cell 3; have e4 := b_.cell 4; have e5 := b_.cell 5; have e6 := b_.cell 6; have e7 := b_.cell 7; have e8 := b_.cell 8; simp only [List.getElem?_toArray, List.getElem?_cons_zero, List.getElem?_cons_succ] at e0 e1 e2 e3 e4 e5 e6 e7 e8; go_simp; (try with_reducible rfl)))
      (try simp only [Act.put, List.setIfInBounds_toArray, List.set_cons_zero, List.set_cons_succ])
      refine late_ready (rs := [4]) (by kernel_rfl) (by simp) ?_; refine AllLate.cons (o := _) rfl (fun K hK => ?_) AllLate.nil
      go_simp
      (go_at_call 52; refine (hOf _).mono ?_; rintro e u1 ⟨rfl, k1⟩)
      replace yy := yy.trans k1 (by simp)
      clear k1 hHeld
      refine hK.out _ _ (fun _ => by (try dsimp only); exact yy) ?_
      clear hK K
      (try simp only [Act.put, List.setIfInBounds_toArray, List.set_cons_zero, List.set_cons_succ])
      refine late_ready (rs := [5]) (by kernel_rfl) (by simp) ?_; refine AllLate.cons (o := _) rfl (fun K hK => ?_) AllLate.nil
      go_simp
      have bm := Blk.new u1 47 #[.bool rw_, .bool ru, .bool rx, .bool ew, .bool eu, .bool !en]
      replace yy := yy.alloc (.cells #[.bool rw_, .bool ru, .bool rx, .bool ew, .bool eu, .bool !en] 47)
      refine hK.out _ _ (fun _ => by (try dsimp only); exact yy) ?_
      clear hK K
      (try simp only [Act.put, List.setIfInBounds_toArray, List.set_cons_zero, List.set_cons_succ])
      generalize u1.alloc (.cells #[.bool rw_, .bool ru, .bool rx, .bool ew, .bool eu, .bool !en] 47) = u2 at *
      generalize u1.heap.size = gm at *
      refine late_ready (rs := [6]) (by kernel_rfl) (by simp) ?_; refine AllLate.cons (o := _) rfl (fun K hK => ?_) AllLate.nil
      go_simp
      (go_at_call 51; refine (hMt gm _ bm).mono ?_; rintro e u3 ⟨rfl, k3⟩)
      replace yy := yy.trans k3 (by simp)
      clear k3 bm
      refine hK.out _ _ (fun _ => by (try dsimp only); exact yy) ?_
      clear hK K
      (try simp only [Act.put, List.setIfInBounds_toArray, List.set_cons_zero, List.set_cons_succ])
      have hHeld := yy
      (refine late_on 7 (some 9) (v := ?_) rfl rfl (by kernel_rfl) (by kernel_rfl) (by kernel_rfl) (by kernel_rfl) (fun _ _ _ h => h) (by rfl) (by assumption) ?_ ?_; rotate_left; · (intro w hSw; go_simp; (try with_reducible rfl)))
      (try simp only [Act.put, List.setIfInBounds_toArray, List.set_cons_zero, List.set_cons_succ])
      have H5 := (H4.new yy).pick 1 rfl
      have br5 := H5.blk
      obtain ⟨⟨p0, p1, p2⟩, g0, g1, g2⟩ := blk3f br5
      clear hHeld yy H4 be br br5 hOf hMt
      refine late_ready (rs := [8]) (by kernel_rfl) (by simp) ?_; refine AllLate.cons (o := _) rfl (fun K hK => ?_) AllLate.nil
      go_simp
      refine hK.out _ _ (fun e => absurd rfl e) ?_
      clear hK K
      (try simp only [Act.put, List.setIfInBounds_toArray, List.set_cons_zero, List.set_cons_succ])
      refine late_done (by kernel_rfl) ?_ _
      refine NoPanic.normal ?_
      clear p0 p1 p2 g0 g1 g2
      have H6 := H5.put3 (.bool (rw_ && ew)) (.bool (ru && eu)) (.bool (rx && !en))
      generalize ((u3.setCell ⟨rc, 0, none⟩ (.bool (rw_ && ew))).setCell ⟨rc, 1, none⟩ (.bool (ru && eu))).setCell ⟨rc, 2, none⟩ (.bool (rx && !en)) = w7 at *
      replace H6 : SepC w w7 (blkT rc 47 #[.bool (rw_ && ew), .bool (ru && eu), .bool (rx && !en)] :: blkT gz 47 #[.bool false, .bool false, .bool false] :: []) := (H6.pick 1 rfl).tail
      clear H5
      by_cases hk2 : k < 2
      · have hgt : decide ((3 : Int) - (k : Int) > 1) = true := decide_eq_true (by omega)
        go_wp2_with fail
        rw [show (3 : Int) - (k : Int) - 1 = 3 - ((k + 1 : Nat) : Int) by omega]
        go_step3
        (try simp only [Exit.then])
        refine ⟨rfl, ⟨k + 1, ef, ⟨rw_ && ew, ru && eu, rx && !en⟩, rc, _, _, _, _, _, _, _, _, _, _, _, _, _, _, _, _, _, _, _, _, _, _, _, _, _, _, _, _, _, _, _, by omega, rfl, hst, H6⟩, ?_⟩
        simp [intOf]
        omega
      · obtain rfl : k = 2 := by omega
        have hgt : decide ((3 : Int) - ((2 : Nat) : Int) > 1) = false := by decide
        rw [walkK_3] at hst
        obtain ⟨q1, q2, q3⟩ := walk_is hst
        have br := H6.blk
        have bz := (H6.pick 1 rfl).blk
        obtain ⟨⟨p0, p1, p2⟩, _⟩ := blk3f br
        obtain ⟨⟨z0, z1, z2⟩, f0, f1, f2⟩ := blk3f bz
        have hz := (H6.pick 1 rfl).put3 (.bool (rw_ && ew)) (.bool (ru && eu)) (.bool (rx && !en))
        go_wp2_with fail
        go_region
        go_wp2_with fail
        (try simp only [Exit.jump])
        exact bodyPost_ret (tct_ret rfl (hz.blk.drew) rfl rfl rfl Try.underlying47 rfl (by kernel_rfl)) rfl ⟨by rw [q1, q2, q3]; rfl, hz.1.drew⟩

end Go.Proofs.Ytfckedecpflldaa
