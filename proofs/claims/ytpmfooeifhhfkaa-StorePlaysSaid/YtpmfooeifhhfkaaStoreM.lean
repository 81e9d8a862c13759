/-
  The contract of package store's Drop.
-/
import Derived.Test.YtpmfooeifhhfkaaStoreL
namespace Go.Proofs.Ytpmfooeifhhfkaa
open Go.RowKit Go.Maps Go.Shelf

set_option maxHeartbeats 400000 in
theorem SDrop1_any (x : Int) (pb : Nat) (p : Int) (w : World) (hp : Blk w pb 3 #[.int .i64 p]) : Calls Try.prog 71 #[.int .i64 x, .pointer (some ⟨pb, 0, none⟩)] w fun e w' => e = .returned (.bool (x == p)) ∧ Chg [] w w' := by
  have c0 := hp.cell 0
  simp only [List.getElem?_toArray, List.getElem?_cons_zero] at c0
  go_enter Try.func71, Try.ntmps71
  go_wp2
  go_ret
  exact ⟨rfl, Chg.refl _ _⟩

section
variable {q hp hb n a m fp mp : Nat} {s : Sr} {FS B : List Nat} {v : Value}
set_option maxRecDepth 100000 in
set_option maxHeartbeats 2000000 in
theorem Sdrop_no (p : Int) (w : World) (h : StX w q hp hb n a m s fp mp FS v B) (hp' : -9223372036854775808 ≤ p ∧ p ≤ 9223372036854775807) (hd : dropB s p = false) :
    Calls Try.prog 41 #[.pointer (some ⟨q, 0, none⟩), .int .i64 p] w fun e w' => e = .returned (.bool false) ∧ Chg [] w w' := by
  have y0 := (Chg.refl [] w).alloc (.cells #[.int .i64 p] 3)
  have b0 := Blk.new w 3 #[.int .i64 p]
  have hqst := (h.new y0).st
  have hL := fun w' (y : Chg [] (w.alloc (.cells #[.int .i64 p] 3)) w') => ((h.new y0).new y).look p hp'
  have hnone : blkF s.L B p = none := (blkF_none h.bl).2 (by unfold dropB at hd; simpa using hd)
  rw [hnone] at hL
  simp only [ptrO] at hL
  clear h hnone hd
  go_enter Try.func41, Try.ntmps41
  go_wp2_with fail
  generalize w.alloc (.cells #[.int .i64 p] 3) = w1 at *
  refine wp_region_noPanic ?_
  refine wp_region_held_drew (S := (fun w' => Chg [] w1 w')) (by kernel_rfl) ?_ (fun hHeld => ?_)
  · exact ((Chg.refl [] w1).drew)
  (refine take_on 0 (some 7) (v := ?_) rfl rfl (by kernel_rfl) (by kernel_rfl) (by kernel_rfl) (fun _ _ _ h => h) (by rfl) (by assumption) ?_ ?_; rotate_left; · (intro w hSw; go_simp; (try with_reducible rfl)))
  (try simp only [Act.put, List.setIfInBounds_toArray, List.set_cons_zero, List.set_cons_succ])
  (refine take_on 1 (some 8) (v := ?_) rfl rfl (by kernel_rfl) (by kernel_rfl) (by kernel_rfl) (fun _ _ _ h => h) (by rfl) (by assumption) ?_ ?_; rotate_left; · (intro w hSw; go_simp; (try with_reducible rfl)))
  (try simp only [Act.put, List.setIfInBounds_toArray, List.set_cons_zero, List.set_cons_succ])
  (refine take_on 2 (some 9) (v := ?_) rfl rfl (by kernel_rfl) (by kernel_rfl) (by kernel_rfl) (fun _ _ _ h => h) (by rfl) (by assumption) ?_ ?_; rotate_left; · (intro w hSw; go_simp; (try with_reducible rfl)))
  (try simp only [Act.put, List.setIfInBounds_toArray, List.set_cons_zero, List.set_cons_succ])
  (refine take_on 3 (some 10) (v := ?_) rfl rfl (by kernel_rfl) (by kernel_rfl) (by kernel_rfl) (fun _ _ _ h => h) (by rfl) (by assumption) ?_ ?_; rotate_left; · (intro w hSw; (try dsimp only at hSw); have b_ := (hqst.chg_ hSw (by simp)).cell 2; simp only [List.getElem?_toArray, List.getElem?_cons_succ, List.getElem?_cons_zero] at b_; go_simp; (try with_reducible rfl)))
  (try simp only [Act.put, List.setIfInBounds_toArray, List.set_cons_zero, List.set_cons_succ])
  (refine take_on 4 (some 11) (v := ?_) rfl rfl (by kernel_rfl) (by kernel_rfl) (by kernel_rfl) (fun _ _ _ h => h) (by rfl) (by assumption) ?_ ?_; rotate_left; · (intro w hSw; (try dsimp only at hSw); have b_ := (b0.chg_ hSw (by simp)).cell 0; simp only [List.getElem?_toArray, List.getElem?_cons_zero] at b_; go_simp; (try with_reducible rfl)))
  (try simp only [Act.put, List.setIfInBounds_toArray, List.set_cons_zero, List.set_cons_succ])
  (refine take_on 5 (some 12) (v := ?_) rfl rfl (by kernel_rfl) (by kernel_rfl) (by kernel_rfl) (fun _ _ _ h => h) (by rfl) (by assumption) ?_ ?_; rotate_left; · (intro w hSw; (try dsimp only at hSw); have hlk_ := hL w hSw; go_simp; (try with_reducible rfl)))
  (try simp only [Act.put, List.setIfInBounds_toArray, List.set_cons_zero, List.set_cons_succ])
  (refine take_on 6 (some 13) (v := ?_) rfl rfl (by kernel_rfl) (by kernel_rfl) (by kernel_rfl) (fun _ _ _ h => h) (by rfl) (by assumption) ?_ ?_; rotate_left; · (intro w hSw; go_simp; (try with_reducible rfl)))
  (try simp only [Act.put, List.setIfInBounds_toArray, List.set_cons_zero, List.set_cons_succ])
  refine wpAnyH_done (by kernel_rfl) ?_ _
  refine NoPanic.normal ?_
  go_wp2_with fail
  go_ret
  exact ⟨rfl, y0.drew⟩

set_option maxRecDepth 100000 in
set_option maxHeartbeats 8000000 in
theorem Sdrop_yes (p : Int) (w : World) (h : StX w q hp hb n a m s fp mp FS v B) (hok : SrOk n a m s) (hp' : -9223372036854775808 ≤ p ∧ p ≤ 9223372036854775807) (hd : dropB s p = true) :
    Calls Try.prog 41 #[.pointer (some ⟨q, 0, none⟩), .int .i64 p] w fun e w' => e = .returned (.bool true) ∧
      ∃ FS' v' B', StX w' q hp hb n a m (dropS s p) fp mp FS' v' B' ∧ Chg (hb :: stS q mp FS v B) w w' ∧ ∀ i ∈ stS q mp FS' v' B', i ∈ stS q mp FS v B ∨ w.heap.size ≤ i := by
  have y0 := (Chg.refl [] w).alloc (.cells #[.int .i64 p] 3)
  have b0 := Blk.new w 3 #[.int .i64 p]
  have hqst := (h.new y0).st
  have hL := fun w' (y : Chg [] (w.alloc (.cells #[.int .i64 p] 3)) w') => ((h.new y0).new y).look p hp'
  obtain ⟨g, hg⟩ := Option.isSome_iff_exists.1 (show (pgAt s.L p).isSome = true from hd)
  obtain ⟨j, pb, g1, g2, g3, g4, g5⟩ := h.at_ hg
  rw [g3] at hL
  simp only [ptrO] at hL
  have hcnt := hok.cnt; have hle := hok.le; have hn6 := hok.n256
  have hpb := hok.inL (pgAt_mem hg).1
  rw [g5] at hpb
  have hPar := fun w' (y : Chg [] w w') => Sparents_any p w' (h.new y) (by omega)
  have hT := fun x hx => told_bound hok (kind := 1) (p := p) (x := x) hx
  have hTl : (toldP 1 p s.L).length ≤ 100000 := by
    rw [← lnkF_all h.e8]
    have := lnkF_len 1 p s.L (allI s.L.length)
    unfold allI at this ⊢
    rw [List.length_finRange] at this
    omega
  have hsz0 : w.heap.size < (w.alloc (.cells #[.int .i64 p] 3)).heap.size := by simp
  obtain ⟨T, hTT⟩ : ∃ T, toldP 1 p s.L = T := ⟨_, rfl⟩
  have hdw := drop_wipe hok hd
  rw [hTT] at hPar hT hTl hdw
  have hclr : ∀ (k : Nat) (x : Int × Int), T[k]? = some x → ∀ w', StX w' q hp hb n a m (clrN n s (T.take k)) fp mp FS v B → Calls Try.prog 43 #[.pointer (some ⟨q, 0, none⟩), .int .i64 x.1, .int .i64 x.2] w' fun e w2 => (∃ t, e = .returned (.bool t)) ∧ StX w2 q hp hb n a m (clrN n s (T.take (k + 1))) fp mp FS v B ∧ Chg (hb :: B) w' w2 := by
    intro k x hx w' H
    have hxm := hT x (List.mem_of_getElem? hx)
    refine (Sclear_any x.1 x.2 w' H (by omega)).mono fun e w2 ⟨e1, e2, e3⟩ => ⟨⟨_, e1⟩, ?_, e3⟩
    have hk := (List.getElem?_eq_some_iff.1 hx).1
    rw [List.take_succ_eq_append_getElem hk, clrN_snoc, (List.getElem?_eq_some_iff.1 hx).2]
    exact e2
  clear hTT
  have hok2 := clr_ok T hok
  go_enter Try.func41, Try.ntmps41
  go_wp2_with fail
  generalize w.alloc (.cells #[.int .i64 p] 3) = w1 at *
  have hzd : w1.drew.heap.size = w1.heap.size := rfl
  refine wp_region_noPanic ?_
  refine wp_region_held_drew (S := (fun w' => Chg [] w1 w')) (by kernel_rfl) ?_ (fun hHeld => ?_)
  · exact ((Chg.refl [] w1).drew)
  (refine take_on 0 (some 7) (v := ?_) rfl rfl (by kernel_rfl) (by kernel_rfl) (by kernel_rfl) (fun _ _ _ h => h) (by rfl) (by assumption) ?_ ?_; rotate_left; · (intro w hSw; go_simp; (try with_reducible rfl)))
  (try simp only [Act.put, List.setIfInBounds_toArray, List.set_cons_zero, List.set_cons_succ])
  (refine take_on 1 (some 8) (v := ?_) rfl rfl (by kernel_rfl) (by kernel_rfl) (by kernel_rfl) (fun _ _ _ h => h) (by rfl) (by assumption) ?_ ?_; rotate_left; · (intro w hSw; go_simp; (try with_reducible rfl)))
  (try simp only [Act.put, List.setIfInBounds_toArray, List.set_cons_zero, List.set_cons_succ])
  (refine take_on 2 (some 9) (v := ?_) rfl rfl (by kernel_rfl) (by kernel_rfl) (by kernel_rfl) (fun _ _ _ h => h) (by rfl) (by assumption) ?_ ?_; rotate_left; · (intro w hSw; go_simp; (try with_reducible rfl)))
  (try simp only [Act.put, List.setIfInBounds_toArray, List.set_cons_zero, List.set_cons_succ])
  (refine take_on 3 (some 10) (v := ?_) rfl rfl (by kernel_rfl) (by kernel_rfl) (by kernel_rfl) (fun _ _ _ h => h) (by rfl) (by assumption) ?_ ?_; rotate_left; · (intro w hSw; (try dsimp only at hSw); have b_ := (hqst.chg_ hSw (by simp)).cell 2; simp only [List.getElem?_toArray, List.getElem?_cons_succ, List.getElem?_cons_zero] at b_; go_simp; (try with_reducible rfl)))
  (try simp only [Act.put, List.setIfInBounds_toArray, List.set_cons_zero, List.set_cons_succ])
  (refine take_on 4 (some 11) (v := ?_) rfl rfl (by kernel_rfl) (by kernel_rfl) (by kernel_rfl) (fun _ _ _ h => h) (by rfl) (by assumption) ?_ ?_; rotate_left; · (intro w hSw; (try dsimp only at hSw); have b_ := (b0.chg_ hSw (by simp)).cell 0; simp only [List.getElem?_toArray, List.getElem?_cons_zero] at b_; go_simp; (try with_reducible rfl)))
  (try simp only [Act.put, List.setIfInBounds_toArray, List.set_cons_zero, List.set_cons_succ])
  (refine take_on 5 (some 12) (v := ?_) rfl rfl (by kernel_rfl) (by kernel_rfl) (by kernel_rfl) (fun _ _ _ h => h) (by rfl) (by assumption) ?_ ?_; rotate_left; · (intro w hSw; (try dsimp only at hSw); have hlk_ := hL w hSw; go_simp; (try with_reducible rfl)))
  (try simp only [Act.put, List.setIfInBounds_toArray, List.set_cons_zero, List.set_cons_succ])
  (refine take_on 6 (some 13) (v := ?_) rfl rfl (by kernel_rfl) (by kernel_rfl) (by kernel_rfl) (fun _ _ _ h => h) (by rfl) (by assumption) ?_ ?_; rotate_left; · (intro w hSw; go_simp; (try with_reducible rfl)))
  (try simp only [Act.put, List.setIfInBounds_toArray, List.set_cons_zero, List.set_cons_succ])
  refine wpAnyH_done (by kernel_rfl) ?_ _
  refine NoPanic.normal ?_
  have bd := b0.drew
  have x0 := b0.cell 0
  simp only [List.getElem?_toArray, List.getElem?_cons_zero] at x0
  go_wp2_with fail
  refine (hPar _ y0.drew).mono ?_; rintro e w2 ⟨A, c, rfl, ho, hnew, y2⟩
  clear hPar hL x0 hHeld
  have y02 := y0.drew.trans y2 (by simp)
  have b2 := bd.chg_ y2 (by simp)
  have hX2 := h.new y02
  have hD : ∀ i ∈ hb :: B, i < w.heap.size := fun i hi => by
    simp only [List.mem_cons] at hi
    rcases hi with rfl | hi
    · exact h.hm.ws.lt
    · exact h.lt i (by simp [stS, hi])
  have hlen : T.length ≤ 9223372036854775807 := by omega
  go_wp2_with fail
  go_loopw [18] (fun s18 wr => ∃ k : Nat, k ≤ T.length ∧ s18 = .int .i64 k ∧ StX wr q hp hb n a m (clrN n s (T.take k)) fp mp FS v B ∧ Chg (hb :: B) w wr ∧ Blk wr w.heap.size 3 #[.int .i64 p] ∧ OwnG atE wr 70 (.slice A T.length c) T) (fun s18 _ => T.length - (intOf s18).toNat)
  case atStart => exact ⟨0, Nat.zero_le _, rfl, hX2, y02.weak (by simp), b2, ho⟩
  case round =>
    obtain ⟨k, hk, rfl, H, y, bk, ok⟩ := hrel
    clear hX2 b2 ho y2 bd
    by_cases hlt : k < T.length
    · have hltz : (k : Int) < (T.length : Int) := by omega
      obtain ⟨gb, off, x, rfl, _, hx, hat⟩ := ok.slg.get hlt
      have hc := hclr k x hx
      have a0 := hat 0 _ rfl; have a1 := hat 1 _ rfl
      simp only [show (atE).k = 2 from rfl, Nat.add_zero] at a0 a1
      clear hclr hx hat
      go_wp2_with fail
      refine (hc _ (H.new ((Chg.refl [] wr).alloc _))).mono ?_; rintro e w3 ⟨⟨t, rfl⟩, H3, y3⟩
      clear hc a0 a1
      have yk := ((Chg.refl [] wr).alloc (.cells #[.int .i64 x.1, .int .i64 x.2] 70)).weak (T := hb :: B) (by simp)
      have y4 := yk.trans y3 (fun _ _ hm => hm)
      go_wp2_with fail
      go_roundw
      case rel =>
        refine ⟨k + 1, by omega, by go_num, H3, y.trans y4 (fun _ _ hm => hm), bk.chg_ y4 (fun hm => by have := hD _ hm; omega), ok.chg y4 (fun g_ hg_ hm => ?_)⟩
        have := hnew g_ hg_; have := hD _ hm; omega
      case measure => simp [intOf]; omega
    · obtain rfl : k = T.length := by omega
      have hltz : ¬ (T.length : Int) < (T.length : Int) := by omega
      rw [List.take_length] at H
      clear hclr ok hnew
      have e0 := bk.cell 0
      simp only [List.getElem?_toArray, List.getElem?_cons_zero] at e0
      have hemp := Sempty_any p wr H (by
        rw [clr_wipe T hok (fun x hx => (hT x hx).2)]
        unfold wipeS
        rw [updS_L, some_upd]; exact hd)
      rw [hdw] at hemp
      clear hdw hok2 hT
      go_wp2_with fail
      refine hemp.mono ?_; rintro e w3 ⟨rfl, H3, y3⟩
      clear hemp e0
      have y13 := y.trans y3 (fun _ _ hm => hm)
      have b3 := bk.chg_ y3 (fun hm => by have := hD _ hm; omega)
      obtain ⟨s3, hs3⟩ : ∃ s3, wipeS s (goneC s.L p) = s3 := ⟨_, rfl⟩
      have hds := dropS_is hd
      have hmap3 : s3.L.map Pg.f = s.L.map Pg.f := by rw [← hs3]; unfold wipeS; rw [updS_L]; exact (updP_map s.L _).1
      have hfr3 : s3.fr = s.fr := by rw [← hs3]; rfl
      have hlen3 : s3.L.length = s.L.length := by have := congrArg List.length hmap3; simpa using this
      rw [hs3] at H3 hds
      clear hs3
      have hpg3 : (pgAt s3.L p).isSome = true := by
        cases e : pgAt s3.L p with
        | some _ => rfl
        | none =>
          exfalso
          rw [pgAt_none] at e
          have hm : p ∈ s3.L.map Pg.f := by rw [hmap3]; exact List.mem_map.2 ⟨g, (pgAt_mem hg).1, g5⟩
          obtain ⟨r, hr, hrf⟩ := List.mem_map.1 hm
          exact e r hr hrf
      obtain ⟨g', hg'⟩ := Option.isSome_iff_exists.1 hpg3
      obtain ⟨j3, b_3, k1, k2, k3, k4, k5⟩ := H3.at_ hg'
      have hwf := WalkArith.wf_i64 hp'
      obtain ⟨n1, n2, n3, n4, n5, n6, n7, n8, n9, n10, n11⟩ := h.ne
      have hqm : q ≠ mp := n1.symm
      have hmf : ∀ (fn : Fn) (first cap : Array Value) (w : World), (Instr.makeFunc fn first cap).run Try.prog w = .ok (.func fn first cap) w := fun _ _ _ _ => rfl
      have hF3 : (blkF s3.L B p).isSome = true := by rw [k3]; rfl
      have q3 := H3.st
      have d2 := q3.cell 2
      have dp := b3.cell 0
      simp only [List.getElem?_toArray, List.getElem?_cons_zero, List.getElem?_cons_succ] at d2 dp
      clear hg' hpg3 k3 bk
      go_wp2_with fail
      refine wp_region_still_tail 5 (by kernel_rfl) (by kernel_rfl) ?_
      simp only [List.take_succ_cons, List.take_zero, List.drop_succ_cons, List.drop_zero]
      change wpStill _ _ (World.drew _) _ _ _
      iterate 5 still_step
      refine wpStill_nil ?_
      change wpList _ _ _ _ _ (World.drew _)
      clear d2 dp
      go_wp2_with (at_delete; refine wpList_delete_P rfl _ _ 88 rfl 99 lawI Try.underlying88 Try.underlying3 mp s3.L.length (blkF s3.L B) rfl (H3.mp_.chg (Chg.refl [] w3).drew (by simp)) p rfl hwf hF3 ?_; intro w4 mp4 hpos y4; have y34 : Chg [mp] w3 w4 := ((Chg.refl [mp] w3).drew).trans y4 (fun _ _ hh => hh); have st4 := q3.chg_ y34 (by simp; exact hqm); have c3 := st4.cell 3; simp only [List.getElem?_toArray, List.getElem?_cons_zero, List.getElem?_cons_succ] at c3)
      have b4 := b3.chg_ y34 (by simp; have := h.mp_.lt; omega)
      have od4 := H3.od.chg y34 (by intro i hi hm; simp at hm; subst hm; exact (n2 _ hi).2.1 rfl)
      have hrng : ∀ x ∈ s3.L.map Pg.f, IntKind.i64.min ≤ x ∧ x ≤ IntKind.i64.max := fun x hx => by
        obtain ⟨r, hr, rfl⟩ := List.mem_map.1 hx
        have := H3.ge r hr
        have h1 : IntKind.i64.min = -9223372036854775808 := rfl
        have h2 : IntKind.i64.max = 9223372036854775807 := rfl
        omega
      have hbv : w.heap.size ∉ v.ownBlock.toList := fun hm => by have := h.od.lt _ hm; omega
      have hdel := deleteI_any (fun x => x == p) 71 w.heap.size (enters_of Try.func71 (by kernel_rfl) rfl) v (s3.L.map Pg.f) w4 hrng (fun x W yW => SDrop1_any x w.heap.size p W (b4.chg_ yW hbv)) od4
      refine hdel.mono ?_; rintro e w5 ⟨v', rfl, y5, od5, hob⟩
      clear hdel c3
      have hfl : (s3.L.map Pg.f).filter (fun h => !(h == p)) = (s3.L.filter fun x => decide (x.f ≠ p)).map Pg.f := by
        rw [List.filter_map]
        congr 1
        apply List.filter_congr
        intro x _
        by_cases e : x.f = p <;> simp [Function.comp, e]
      rw [hfl] at od5
      have her : s3.L.filter (fun x => decide (x.f ≠ p)) = s3.L.eraseIdx j3 := by have := filter_erase H3.nd k1; rwa [k5] at this
      obtain ⟨L5, hL5⟩ : ∃ L5, s3.L.filter (fun x => decide (x.f ≠ p)) = L5 := ⟨_, rfl⟩
      rw [hL5] at od5 her hds
      clear hfl hL5
      replace her := Lib.hid her; replace hds := Lib.hid hds
      obtain ⟨A5, c5, hv5⟩ := od5.form
      rw [List.length_map] at hv5
      subst hv5
      have st5 := st4.chg_ y5 (fun hm => (n2 _ hm).1 rfl)
      have q5 := st5.cell 3; have f5 := st5.frozen 3
      simp only [List.getElem?_toArray, List.getElem?_cons_zero, List.getElem?_cons_succ] at q5
      go_wp2_with fail
      generalize hv6 : Value.slice A5 L5.length c5 = v6 at *
      have hv6o : v6.ownBlock = v.ownBlock := hob
      have y6 : Chg [q] w5 (w5.setCell ⟨q, 3, none⟩ v6) := (Chg.refl [q] w5).setCell (p := ⟨q, 3, none⟩) (by simp) _
      have st6 := st5.set_ 3 v6
      have hDv : ∀ i, i ∈ mp :: q :: v.ownBlock.toList → i ∈ stS q mp FS v B := fun i hi => by
        simp only [List.mem_cons] at hi
        unfold stS
        simp only [List.mem_cons, List.mem_append]
        rcases hi with hi | hi | hi
        · exact .inr (.inl hi)
        · exact .inl hi
        · exact .inr (.inr (.inl hi))
      have y36 : Chg (mp :: q :: v.ownBlock.toList) w3 (w5.setCell ⟨q, 3, none⟩ v6) := ((y34.weak (fun i _ hi => by simp at hi; simp [hi])).trans y5 (fun i _ hi => by simp only [List.mem_cons]; exact .inr (.inr hi))).trans y6 (fun i _ hi => by simp at hi; simp [hi])
      have own_fs : ∀ i, i ∈ mp :: q :: v.ownBlock.toList → i ∉ FS ∧ i ∉ B ∧ i ≠ hp ∧ i ≠ hb := fun i hi => by
        simp only [List.mem_cons] at hi
        rcases hi with rfl | rfl | hi
        · exact ⟨h.fs.2.1, n4, n7.symm, n8.symm⟩
        · exact ⟨h.fs.1, n3, n5.symm, n6.symm⟩
        · exact ⟨h.fs.2.2.1 i hi, (n2 i hi).2.2.1, (n2 i hi).2.2.2.1, (n2 i hi).2.2.2.2⟩
      have od6 : OwnI (w5.setCell ⟨q, 3, none⟩ v6) 3 .i64 v6 (L5.map Pg.f) := od5.chg y6 (fun i hi hm => by simp at hm; subst hm; rw [hv6o] at hi; exact (n2 _ hi).1 rfl)
      have mp6 := (mp4.chg y5 (fun hm => (n2 _ hm).2.1 rfl)).chg y6 (by simp; exact n1)
      have fl6 := H3.fl.chg y36 (fun i hi hm => (own_fs i hm).1 hi)
      have pg6 : ∀ (i : Nat) (r : Pg) (b : Nat), s3.L[i]? = some r → B[i]? = some b → PgB (w5.setCell ⟨q, 3, none⟩ v6) b r := fun i r b e1 e2 => Blk.chg_ (H3.pg i r b e1 e2) y36 (fun hm => (own_fs b hm).2.1 (List.mem_of_getElem? e2))
      have hm6 : MemAt (w5.setCell ⟨q, 3, none⟩ v6) hp hb n s3.W := ⟨H3.hm.st.chg_ y36 (fun hm => (own_fs _ hm).2.2.1 rfl), H3.hm.ws.chg_ y36 (fun hm => (own_fs _ hm).2.2.2 rfl), H3.hm.len, H3.hm.pos, H3.hm.le⟩
      have b6 := b3.chg_ y36 (fun hm => by have := h.lt _ (hDv _ hm); omega)
      rw [hfr3] at fl6
      have hgv : giveB a m s.fr p = true := by
        unfold giveB
        rw [Bool.and_eq_true, decide_eq_true_eq]
        refine ⟨by omega, ?_⟩
        simp only [Bool.not_eq_true', List.contains_eq_mem, decide_eq_false_iff_not]
        intro hm
        exact (List.nodup_append.1 hok.nd).2.2 p (List.mem_map.2 ⟨g, (pgAt_mem hg).1, g5⟩) p hm rfl
      have hgL : giveL a m s.fr p = s.fr ++ [p] := by unfold giveL; rw [hgv]; rfl
      have hge3 := H3.ge; have he83 := H3.e8
      clear st4 y34 b4 od4 hrng q5 f5 od5 mp4 y4 q3 H3
      generalize w5.setCell ⟨q, 3, none⟩ v6 = w6 at *
      have d1 := st6.cell 1
      have dp := b6.cell 0
      simp only [List.getElem?_toArray, List.getElem?_cons_zero, List.getElem?_cons_succ, List.setIfInBounds_toArray, List.set_cons_succ, List.set_cons_zero] at d1 dp
      have hGive := fun w' (y : Chg [] w6 w') => FGive_at FS fp a m s.fr p w' (fl6.chg y (by simp)) hp'
      rw [hgv, hgL] at hGive
      refine wp_region_still_tail 5 (by kernel_rfl) (by kernel_rfl) ?_
      simp only [List.take_succ_cons, List.take_zero, List.drop_succ_cons, List.drop_zero]
      change wpStill _ _ (World.drew _) _ _ _
      iterate 5 still_step
      refine wpStill_nil ?_
      change wpList _ _ _ _ _ (World.drew _)
      clear d1 dp
      go_wp2_with fail
      refine (hGive _ (Chg.refl [] w6).drew).mono ?_; rintro e w7 ⟨FS', rfl, y7, fl7, gr7⟩
      clear hGive
      go_wp2_with fail
      go_ret
      have y67 : Chg FS w6 w7 := ((Chg.refl [] w6).drew.weak (by simp)).trans y7 (fun _ _ hm => hm)
      have hFSq : ∀ i, i ∈ FS → i ∈ stS q mp FS v B := fun i hi => by simp [stS, hi]
      have hall : ∀ i ∈ stS q mp FS v B, i < w.heap.size := h.lt
      have ch3 : Chg (hb :: stS q mp FS v B) w w3 := y13.weak (fun i _ hi => by simp only [List.mem_cons] at hi; rcases hi with rfl | hi; simp; simp [stS, hi])
      have hE := fun i (hi : i ∈ FS') => gr7 i hi
      have hnfs : ∀ i, i < w3.heap.size → i ∉ FS → i ∉ FS' := fun i hi hn hm => by
        rcases hE i hm with h1 | h1
        · exact hn h1
        · have h2 : w6.drew.heap.size = w6.heap.size := rfl
          have := y36.size; omega
      have hz3 : w.heap.size ≤ w3.heap.size := y13.size
      rw [her.out] at od6
      refine ⟨rfl, FS', v6, B.eraseIdx j3, ?_, ((ch3.trans y36 (fun i _ hi => List.mem_cons_of_mem _ (hDv i hi))).trans y67 (fun i _ hi => List.mem_cons_of_mem _ (hFSq i hi))), ?_⟩
      · rw [hds.out, her.out]
        have hbl3 : B.length = s3.L.length := by rw [hlen3]; exact h.bl
        have hnd3 : (s3.L.map Pg.f).Nodup := by rw [hmap3]; exact h.nd
        have hj3 : j3 < s3.L.length := (List.getElem?_eq_some_iff.1 k1).1
        refine ⟨y67.blk st6 h.fs.1, fl7, ?_, od6.chg y67 (fun i hi hm => ?_), ?_, h.nb.sublist (List.eraseIdx_sublist _ _), ?_, ⟨y67.blk hm6.st h.hs.1, y67.blk hm6.ws h.hs.2, hm6.len, hm6.pos, hm6.le⟩, ?_, ?_, ?_, ⟨?_, ?_, ?_, ?_⟩, ?_, ?_⟩
        · show PtrM _ _ _ _ (s3.L.eraseIdx j3).length _
          rw [List.length_eraseIdx_of_lt hj3]
          exact (mp6.chg y67 h.fs.2.1).congr fun x => by rw [blkF_erase hnd3 hbl3 k1, k5]
        · rw [hv6o] at hi; exact h.fs.2.2.1 i hi hm
        · show (B.eraseIdx j3).length = (s3.L.eraseIdx j3).length
          rw [List.length_eraseIdx_of_lt hj3, List.length_eraseIdx_of_lt (by omega), hbl3]
        · intro i r b e1 e2
          simp only at e1
          rw [List.getElem?_eraseIdx] at e1 e2
          have key : ∃ i' : Nat, s3.L[i']? = some r ∧ B[i']? = some b := by
            split at e1
            · rename_i hlt; rw [if_pos hlt] at e2; exact ⟨_, e1, e2⟩
            · rename_i hlt; rw [if_neg hlt] at e2; exact ⟨_, e1, e2⟩
          obtain ⟨i', e3, e4⟩ := key
          exact Blk.chg_ (pg6 i' r b e3 e4) y67 (h.fs.2.2.2 b (List.mem_of_getElem? e4))
        · show ((s3.L.eraseIdx j3).map Pg.f).Nodup
          exact hnd3.sublist ((List.eraseIdx_sublist _ _).map _)
        · intro r hr
          exact hge3 r ((List.eraseIdx_sublist _ _).subset hr)
        · intro r hr
          exact he83 r ((List.eraseIdx_sublist _ _).subset hr)
        · exact hnfs q (by have := hall q (by simp [stS]); omega) h.fs.1
        · exact hnfs mp (by have := hall mp (by simp [stS]); omega) h.fs.2.1
        · intro i hi; rw [hv6o] at hi; exact hnfs i (by have := h.od.lt i hi; omega) (h.fs.2.2.1 i hi)
        · intro i hi
          have hi' := (List.eraseIdx_sublist _ _).subset hi
          exact hnfs i (by have := hall i (by simp [stS, hi']); omega) (h.fs.2.2.2 i hi')
        · exact hnfs hp (by have := h.hm.st.lt; omega) h.hs.1
        · exact hnfs hb (by have := h.hm.ws.lt; omega) h.hs.2
      · intro i hi
        simp only [stS, List.mem_cons, List.mem_append] at hi
        rcases hi with rfl | rfl | hi | hi | hi
        · exact .inl (by simp [stS])
        · exact .inl (by simp [stS])
        · rw [hv6o] at hi; exact .inl (hDv i (by simp only [List.mem_cons]; exact .inr (.inr hi)))
        · rcases hE i hi with h1 | h1
          · exact .inl (hFSq i h1)
          · right
            have h2 : w6.drew.heap.size = w6.heap.size := rfl
            have := y36.size; omega
        · have hi' := (List.eraseIdx_sublist _ _).subset hi
          exact .inl (by simp [stS, hi'])
end

end Go.Proofs.Ytpmfooeifhhfkaa
