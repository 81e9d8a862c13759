/-
  WalkWithin: the walk.
-/
import Derived.Test.YtdfmlodmaipnkaaDoorWalkHead
import Derived.BigQuiet
import Derived.Test.YtdfmlodmaipnkaaDoorWalkK
import Derived.Test.YtdfmlodmaipnkaaDoorWalkU
import Derived.Test.YtdfmlodmaipnkaaDoorRefW
import Derived.Test.YtdfmlodmaipnkaaDoorGuestC
import Derived.Test.YtdfmlodmaipnkaaDoorRefA
namespace Go.Proofs.YtdfmlodmaipnkaaDoor
open Go.RowKit Go.Maps

theorem wi_blk9 {w : World} {g : Nat} {t : TypeId} {x0 x1 x2 x3 x4 x5 x6 x7 x8 : Value} (h : Blk w g t #[x0, x1, x2, x3, x4, x5, x6, x7, x8]) : w.cell? ⟨g, 0, none⟩ = some x0 ∧ w.cell? ⟨g, 1, none⟩ = some x1 ∧ w.cell? ⟨g, 2, none⟩ = some x2 ∧ w.cell? ⟨g, 3, none⟩ = some x3 ∧ w.cell? ⟨g, 4, none⟩ = some x4 ∧ w.cell? ⟨g, 5, none⟩ = some x5 ∧ w.cell? ⟨g, 6, none⟩ = some x6 ∧ w.cell? ⟨g, 7, none⟩ = some x7 ∧ w.cell? ⟨g, 8, none⟩ = some x8 :=
  ⟨h.cell 0, h.cell 1, h.cell 2, h.cell 3, h.cell 4, h.cell 5, h.cell 6, h.cell 7, h.cell 8⟩
theorem wi_blk3 {w : World} {g : Nat} {t : TypeId} {x0 x1 x2 : Value} (h : Blk w g t #[x0, x1, x2]) : w.cell? ⟨g, 0, none⟩ = some x0 ∧ w.cell? ⟨g, 1, none⟩ = some x1 ∧ w.cell? ⟨g, 2, none⟩ = some x2 ∧ w.frozen? ⟨g, 0, none⟩ = false ∧ w.frozen? ⟨g, 1, none⟩ = false ∧ w.frozen? ⟨g, 2, none⟩ = false :=
  ⟨h.cell 0, h.cell 1, h.cell 2, h.frozen 0, h.frozen 1, h.frozen 2⟩

set_option maxRecDepth 100000 in
set_option maxHeartbeats 16000000 in
theorem WalkWithin_walk (A : Option Addr) (m c : Nat) (l : List Pu) (root page kind : Int) (user : Bool) (w : World) (h : SlP w A m l) (hp0 : 0 ≤ page ∧ page ≤ 65535) (hk0 : 0 ≤ kind ∧ kind ≤ 255) (hE : ErrIn w) :
    Calls Tryd.prog 4 #[.slice A m c, .int .i64 root, .int .u16 page, .int .u8 kind, .bool user] w fun e w' => e = .returned (.bool true) ∧ Chg [] w w' := by
  have hwd := made_wd l h.wf
  have hl := h.le
  go_enter Tryd.func4, Tryd.ntmps4
  go_wp2_with fail
  refine (Wahead_any _ hE).mono ?_; rintro e w1 ⟨rfl, hc1⟩
  go_wp2_with fail
  refine (Made_at A m c l _ (h.self hc1)).mono ?_; rintro e w2 ⟨q, S, p, hh, b, rfl, hc2, g2, hb⟩
  have hca : Chg [] w w2 := hc1.trans hc2 (by simp)
  have hbw : w.heap.size ≤ b := by have := hc1.size; omega
  have hE2 := hE.self hca
  have hpos : 0 < w.heap.size := World.block_lt_of_cell? _ _ hE
  generalize madeW l = W at *
  obtain ⟨hwd, hWl⟩ := hwd
  clear hc1 hc2 hb h hE
  by_cases hbig : (m : Int) > 600
  · go_wp2_with fail
    go_ret
    exact ⟨rfl, hca⟩
  · have hpm : Int.tmod page 512 = page % 512 := Int.tmod_eq_emod_of_nonneg hp0.1
    have hkm : Int.tmod kind 3 = kind % 3 := Int.tmod_eq_emod_of_nonneg hk0.1
    have hpr : 0 ≤ page % 512 ∧ page % 512 < 512 := by omega
    have hkr : 0 ≤ kind % 3 ∧ kind % 3 < 3 := by omega
    generalize hpd : page % 512 = pn at *
    generalize hkd : kind % 3 = kn at *
    have hp8 : Int.tmod pn 8 = pn % 8 := Int.tmod_eq_emod_of_nonneg hpr.1
    clear hp0 hk0
    cases hr : walkP 16 W L16 root pn kn user with
    | mk P hc =>
      obtain ⟨how, code⟩ := hc
      by_cases hz : how = 0
      · subst hz
        obtain ⟨rfl, hpath, hmay, hgl⟩ := done_of hr
        have hsh := path_len hpath
        have hg0 := path_g0 hpath
        obtain ⟨F, R, V, hF0, hR0, hRn, hPg, hwi⟩ := path_within hpath
        have hi1 : idxI pn 1 = pn % 8 := rfl
        rw [hi1] at hPg
        rw [L16_len] at hgl
        obtain ⟨pats, pg, ⟨prw, pru, prx⟩, plg, pdy⟩ := P
        simp only at hsh hmay hgl hg0 hRn hPg hwi
        clear hpath hi1
        have hq := fun w0 => run_eqR ⟨prw, pru, prx⟩ ⟨prw, pru, prx⟩ w0
        simp only [Rg.cs, Rg.eqb_self] at hq
        have hMay := fun w0 => RMay_any ⟨prw, pru, prx⟩ kn user w0
        rw [hmay] at hMay
        have hMay : ∀ w0 : World, Calls Tryd.prog 25 #[.agg #[.bool prw, .bool pru, .bool prx], .int .i64 kn, .bool user] w0 fun e w' => e = .returned (.bool true) ∧ Chg [] w0 w' := hMay
        have hAllR : ∀ w0 : World, Calls Tryd.prog 18 #[] w0 fun e w' => e = .returned (.agg #[.bool true, .bool true, .bool true]) ∧ Chg [] w0 w' := RAll_any
        clear hmay
        rcases hsh with ⟨rfl, hpl⟩ | ⟨rfl, hpl⟩
        · simp only [if_true] at hPg
          have HPG := Lib.hid hPg
          clear hPg
          go_wp2_with fail
          refine (Walk_is q S p L16 hh b 16 W root pn kn user ⟨pats, pg, ⟨prw, pru, prx⟩, true, pdy⟩ 0 0 _ hE2 g2 hwd hr).mono ?_; rintro e v1 ⟨A1, c1, rfl, r1, l1, k1⟩
          rw [show pathV A1 c1 ⟨pats, pg, ⟨prw, pru, prx⟩, true, pdy⟩ = #[.slice A1 2 c1, .int .i64 pg, .bool prw, .bool pru, .bool prx, .bool true, .bool pdy] from by simp only [pathV, hpl]]
          have x1 : Chg [] w2 (v1.alloc (.cells #[.slice A1 2 c1, .int .i64 pg, .bool prw, .bool pru, .bool prx, .bool true, .bool pdy] 34)) := k1.alloc _
          have cc1 := hca.trans x1 (by simp)
          have gg1 := g2.self x1
          have EE1 := hE2.self x1
          have b1_ := Blk.new v1 34 #[.slice A1 2 c1, .int .i64 pg, .bool prw, .bool pru, .bool prx, .bool true, .bool pdy]
          have s1_ := (OwnA.sla r1).self ((Chg.refl [] v1).alloc (.cells #[.slice A1 2 c1, .int .i64 pg, .bool prw, .bool pru, .bool prx, .bool true, .bool pdy] 34))
          have n1_ : ∀ g o, A1 = some ⟨g, o, none⟩ → g ≠ b := fun g o e => by have := l1 g (by rw [e]; simp [Value.ownBlock]); have := g2.hm.ws.lt; omega
          clear hca g2 hE2 r1 l1 k1 x1
          go_wp2_with fail
          generalize hwy : (v1.alloc (.cells #[.slice A1 2 c1, .int .i64 pg, .bool prw, .bool pru, .bool prx, .bool true, .bool pdy] 34)) = wy at *
          generalize v1.heap.size = z1 at *
          clear hwy EE1 hr
          refine (hAllR _).mono ?_; rintro e y1 ⟨rfl, ky⟩
          have hc0 : Chg [] wy (y1.alloc (.cells #[.bool true, .bool true, .bool true] 32)) := ky.alloc _
          have hA0 := Blk.new y1 32 #[.bool true, .bool true, .bool true]
          have hza := ky.size
          go_wp2_with fail
          generalize y1.alloc (.cells #[.bool true, .bool true, .bool true] 32) = wl at *
          generalize y1.heap.size = za at *
          clear ky hAllR
          go_loopw [18, 20] (fun f i w' => ∃ z : Nat, z ≤ pats.length ∧ f = .int .i64 (F z) ∧ i = .int .i64 z ∧ Chg [] wy w' ∧ Blk w' za 32 (R z).cs) (fun _ i _ => pats.length - (intOf i).toNat)
          case atStart => exact ⟨0, by omega, by rw [hF0], rfl, hc0, by rw [hR0]; exact hA0⟩
          case round =>
            clear hc0 hA0
            obtain ⟨z, hz, rfl, rfl, hc, hA⟩ := hrel
            have b1_ := b1_.chg_ hc (by simp); have s1_ := s1_.self hc
            by_cases hzl : z < pats.length
            · have hw := hwi z hzl
              have hzn : (z : Int) < 2 := by omega
              have hsub : wrap64 (3 - (z : Int)) = 3 - (z : Int) := by unfold wrap64; omega
              obtain ⟨hat, hrd, hep, heb, hun, hnx, hme⟩ := hw
              obtain ⟨hh', hgv⟩ := rdG_some hrd
              obtain ⟨_, r2, r3⟩ := rd_word hwd hh'
              rw [hgv] at r2 r3
              have hIx := fun w0 => (RIdx_any pn (3 - (z : Int)) w0).mono fun e w' (h : _ ∧ Dr w0 w') => (⟨h.1, h.2.chg⟩ : _ ∧ Chg [] w0 w')
              obtain ⟨ab, off, rfl, _, _, y0, y1_⟩ := s1_.get (k := z) hzl
              rw [hat] at y0 y1_
              simp only at y0 y1_
              have gr := gg1.self hc
              have hRz : (R z).cs = #[.bool (R z).w, .bool (R z).u, .bool (R z).x] := rfl
              rw [hRz] at hA
              clear hRz hat hrd
              have hcs : (getE (V z)).cs = #[.bool (getE (V z)).p, .bool (getE (V z)).w, .bool (getE (V z)).u, .bool (getE (V z)).a, .bool (getE (V z)).d, .bool (getE (V z)).s, .bool (getE (V z)).n, .bool (getE (V z)).bad, .int .i64 (getE (V z)).f] := rfl
              have hGet : ∀ w0 : World, Calls Tryd.prog 20 #[.int .u64 (V z)] w0 fun e w' => e = .returned (.agg (getE (V z)).cs) ∧ Chg [] w0 w' := fun w0 => RGet_any (V z) w0 r3
              rw [hcs, hep, heb] at hGet
              clear hcs
              have HN := Lib.hid hnx
              have HME : Hid ((R (z + 1)).cs = #[.bool ((R z).w && (getE (V z)).w), .bool ((R z).u && (getE (V z)).u), .bool ((R z).x && !(getE (V z)).n)]) := Lib.hid (by rw [hme]; rfl)
              have hOf : ∀ w0 : World, Calls Tryd.prog 23 #[.agg #[.bool true, .bool (getE (V z)).w, .bool (getE (V z)).u, .bool (getE (V z)).a, .bool (getE (V z)).d, .bool (getE (V z)).s, .bool (getE (V z)).n, .bool false, .int .i64 (getE (V z)).f]] w0 fun e w' => e = .returned (.agg #[.bool (getE (V z)).w, .bool (getE (V z)).u, .bool !(getE (V z)).n]) ∧ Chg [] w0 w' := fun w0 => ROf_any _ _ _ _ _ _ _ _ _ w0
              have hUn : ∀ w0 : World, Calls Tryd.prog 22 #[.agg #[.bool prw, .bool pru, .bool prx], .agg #[.bool (getE (V z)).w, .bool (getE (V z)).u, .bool !(getE (V z)).n]] w0 fun e w' => e = .returned (.bool true) ∧ Chg [] w0 w' := fun w0 => by
                have := RUnder_any ⟨prw, pru, prx⟩ (ofE (getE (V z))) w0
                rw [hun] at this
                exact this
              clear hun hme hnx hep heb hgv
              generalize (getE (V z)).w = e1 at *
              generalize (getE (V z)).u = e2 at *
              generalize (getE (V z)).a = e3 at *
              generalize (getE (V z)).d = e4 at *
              generalize (getE (V z)).s = e5 at *
              generalize (getE (V z)).n = e6 at *
              generalize (getE (V z)).f = e8 at *
              generalize (R z).w = a0 at *
              generalize (R z).u = a1 at *
              generalize (R z).x = a2 at *
              generalize V z = vv at *
              generalize F z = fz at *
              generalize idxI pn (3 - (z : Int)) = ix at *
              have hne := fun w0 => run_neA fz ix w0
              obtain ⟨q0, q1, q2, q3, q4, q5, q6, _, _, _, _, _, _, _⟩ := blk7 b1_
              have HG := fun m : Cls wr => (gu_get q S p L16 hh b 16 W fz ix _ true m.val (gr.self m.ok) r2 hh').mono fun e w' (hx : _ ∧ m.val = w') => (⟨hx.1, hx.2 ▸ Chg.refl [] m.val⟩ : _ ∧ Chg [] m.val w')
              have K0 := fun nq : Cls wr => nq.cell q0
              have K1 := fun nq : Cls wr => nq.cell y0
              have K2 := fun nq : Cls wr => nq.cell y1_
              go_wp2_with fail
              refine wp_region_cls (by kernel_rfl) (by kernel_rfl) ?_
              repeat (go_big_quiet_step ((go_at_call 19; with_reducible exact Calls.cls (HG _))))
              refine wpQuiet_nil ?_
              rintro _ ⟨nq, rfl⟩
              clear HG K0 K1 K2
              go_wp2_with fail
              refine (hGet _).mono ?_; rintro e w4 ⟨rfl, k4⟩
              have hE := Blk.new w4 48 #[.bool true, .bool e1, .bool e2, .bool e3, .bool e4, .bool e5, .bool e6, .bool false, .int .i64 e8]
              have x4 : Chg [] wr (w4.alloc (.cells #[.bool true, .bool e1, .bool e2, .bool e3, .bool e4, .bool e5, .bool e6, .bool false, .int .i64 e8] 48)) := (nq.ok.trans k4 (by simp)).alloc _
              have hA5 := hA.chg_ x4 (by simp)
              have hzle : za < w4.heap.size := (hA.chg_ (nq.ok.trans k4 (by simp)) (by simp)).lt
              have q0 := (x4.cell (World.block_lt_of_cell? _ _ q0) (by simp)).trans q0
              have q2 := (x4.cell (World.block_lt_of_cell? _ _ q2) (by simp)).trans q2
              have q3 := (x4.cell (World.block_lt_of_cell? _ _ q3) (by simp)).trans q3
              have q4 := (x4.cell (World.block_lt_of_cell? _ _ q4) (by simp)).trans q4
              have y0 := (x4.cell (World.block_lt_of_cell? _ _ y0) (by simp)).trans y0
              have y1_ := (x4.cell (World.block_lt_of_cell? _ _ y1_) (by simp)).trans y1_
              have hc5 := hc.trans x4 (by simp)
              have hne5 : w4.heap.size ≠ za := by omega
              clear hc hA x4 k4 b1_ s1_ q1 q5 q6 gr hGet
              go_wp2_with fail
              generalize w4.alloc (.cells #[.bool true, .bool e1, .bool e2, .bool e3, .bool e4, .bool e5, .bool e6, .bool false, .int .i64 e8] 48) = w5 at *
              generalize w4.heap.size = ze at *
              obtain ⟨e0_, e1_, e2_, e3_, e4_, e5_, e6_, e7_, e8_⟩ := wi_blk9 hE
              have HI := fun m : Cls w5 => hIx m.val
              have HO := fun m : Cls w5 => hOf m.val
              have HU := fun m : Cls w5 => hUn m.val
              have Kq0 := fun nq : Cls w5 => nq.cell q0
              have Kq2 := fun nq : Cls w5 => nq.cell q2
              have Kq3 := fun nq : Cls w5 => nq.cell q3
              have Kq4 := fun nq : Cls w5 => nq.cell q4
              have Ky0 := fun nq : Cls w5 => nq.cell y0
              have Ky1 := fun nq : Cls w5 => nq.cell y1_
              have Ke0 := fun nq : Cls w5 => nq.cell e0_
              have Ke1 := fun nq : Cls w5 => nq.cell e1_
              have Ke2 := fun nq : Cls w5 => nq.cell e2_
              have Ke3 := fun nq : Cls w5 => nq.cell e3_
              have Ke4 := fun nq : Cls w5 => nq.cell e4_
              have Ke5 := fun nq : Cls w5 => nq.cell e5_
              have Ke6 := fun nq : Cls w5 => nq.cell e6_
              have Ke7 := fun nq : Cls w5 => nq.cell e7_
              have Ke8 := fun nq : Cls w5 => nq.cell e8_
              refine wp_region_cls (by kernel_rfl) (by kernel_rfl) ?_
              repeat (go_big_quiet_step (first | (go_at_call 21; with_reducible exact Calls.cls (HI _)) | (go_at_call 23; with_reducible exact Calls.cls (HO _)) | (go_at_call 22; with_reducible exact Calls.cls (HU _))))
              refine wpQuiet_nil ?_
              rintro _ ⟨mq, rfl⟩
              have hE6 := hE.chg_ mq.ok (by simp)
              have hA6 := hA5.chg_ mq.ok (by simp)
              have hc6 := hc5.trans mq.ok (by simp)
              generalize mq.val = w6 at *
              clear mq hE hA5 hc5 HI HO HU hIx hUn q0 q2 q3 q4 y0 y1_ e0_ e1_ e2_ e3_ e4_ e5_ e6_ e7_ e8_ Kq0 Kq2 Kq3 Kq4 Ky0 Ky1 Ke0 Ke1 Ke2 Ke3 Ke4 Ke5 Ke6 Ke7 Ke8
              go_wp2_with fail
              have hM : ∀ (g : Nat) (w0 : World), Blk w0 g 32 #[.bool a0, .bool a1, .bool a2, .bool e1, .bool e2, .bool !e6] → Calls Tryd.prog 24 #[.slice (some ⟨g, 0, none⟩) 2 2] w0 fun e w' => e = .returned (.agg #[.bool (a0 && e1), .bool (a1 && e2), .bool (a2 && !e6)]) ∧ Chg [] w0 w' := fun g w0 hb => by
                  have := RMeet_any (some ⟨g, 0, none⟩) 2 2 [⟨a0, a1, a2⟩, ⟨e1, e2, !e6⟩] w0 (SlR.made2 _ _ hb) (by decide)
                  rwa [meet2] at this
              have c3_ : Chg [] w6 w6.drew := (Chg.refl [] w6).drew
              obtain ⟨a0_, a1_, a2_, f0_, f1_, f2_⟩ := wi_blk3 hA6
              refine wp_region_noPanic ?_
              refine wp_region_held_drew (S := (fun w' => Blk w' ze 48 #[.bool true, .bool e1, .bool e2, .bool e3, .bool e4, .bool e5, .bool e6, .bool false, .int .i64 e8])) (by kernel_rfl) ?_ (fun hHeld => ?_)
              · exact hE6
              (refine take_on 1 (some 141) (v := ?_) rfl rfl (by kernel_rfl) (by kernel_rfl) (by kernel_rfl) (fun _ _ _ h => h) (by rfl) (by assumption) ?_ ?_; rotate_left; · (intro w hSw; (try dsimp only at hSw); obtain ⟨e0_, e1_, e2_, e3_, e4_, e5_, e6_, e7_, e8_⟩ := wi_blk9 hSw; go_simp; (try with_reducible rfl)))
              (try simp only [Act.put, List.setIfInBounds_toArray, List.set_cons_zero, List.set_cons_succ])
              refine wpAnyH_ready (rs := [0, 2]) (by kernel_rfl) (by simp) ?_; refine AllReadyH.cons (o := _) rfl (fun K hK => ?_) (AllReadyH.cons (o := _) rfl (fun K hK => ?_) AllReadyH.nil)
              · go_simp
                skip
                refine hK.out _ _ (by (try dsimp only); exact hHeld) (fun hHeld => ?_)
                clear hK K
                (try simp only [Act.put, List.setIfInBounds_toArray, List.set_cons_zero, List.set_cons_succ])
                refine wpAnyH_ready (rs := [2]) (by kernel_rfl) (by simp) ?_; refine AllReadyH.cons (o := _) rfl (fun K hK => ?_) AllReadyH.nil
                go_simp
                (go_at_call 23; refine (hOf _).mono ?_; rintro e u5 ⟨rfl, y5⟩; have x5 : Chg [] w6 u5 := Chg.trans c3_ y5 (by simp); have hQ5 := hA6.chg_ x5 (by simp); clear a0_ a1_ a2_ f0_ f1_ f2_; obtain ⟨a0_, a1_, a2_, f0_, f1_, f2_⟩ := wi_blk3 hQ5)
                refine hK.out _ _ (by (try dsimp only); exact hE6.chg_ x5 (by simp)) (fun hHeld => ?_)
                clear hK K
                (try simp only [Act.put, List.setIfInBounds_toArray, List.set_cons_zero, List.set_cons_succ])
                refine wpAnyH_ready (rs := [3]) (by kernel_rfl) (by simp) ?_; refine AllReadyH.cons (o := _) rfl (fun K hK => ?_) AllReadyH.nil
                go_simp
                skip
                refine hK.out _ _ (by (try dsimp only); exact Blk.alloc hHeld _) (fun hHeld => ?_)
                clear hK K
                (try simp only [Act.put, List.setIfInBounds_toArray, List.set_cons_zero, List.set_cons_succ])
                refine wpAnyH_ready (rs := [4]) (by kernel_rfl) (by simp) ?_; refine AllReadyH.cons (o := _) rfl (fun K hK => ?_) AllReadyH.nil
                go_simp
                (go_at_call 24; refine (hM _ _ (Blk.new u5 32 _)).mono ?_; rintro e u6 ⟨rfl, y6⟩; have x6 : Chg [] w6 u6 := Chg.trans (Chg.alloc x5 (.cells #[.bool a0, .bool a1, .bool a2, .bool e1, .bool e2, .bool !e6] 32)) y6 (by simp); have hQ6 := hA6.chg_ x6 (by simp); clear a0_ a1_ a2_ f0_ f1_ f2_; obtain ⟨a0_, a1_, a2_, f0_, f1_, f2_⟩ := wi_blk3 hQ6)
                refine hK.out _ _ (by (try dsimp only); exact hE6.chg_ x6 (by simp)) (fun hHeld => ?_)
                clear hK K
                (try simp only [Act.put, List.setIfInBounds_toArray, List.set_cons_zero, List.set_cons_succ])
                refine wpAnyH_ready (rs := [5]) (by kernel_rfl) (by simp) ?_; refine AllReadyH.cons (o := _) rfl (fun K hK => ?_) AllReadyH.nil
                go_simp
                skip
                refine hK.out _ _ (by (try dsimp only); exact ((hHeld.far hne5 _).far hne5 _).far hne5 _) (fun hHeld => ?_)
                clear hK K
                (try simp only [Act.put, List.setIfInBounds_toArray, List.set_cons_zero, List.set_cons_succ])
                refine wpAnyH_done (by kernel_rfl) ?_ _
                refine NoPanic.normal ?_
                have hch7 := (((Chg.refl [za] u6).setCell (p := ⟨za, 0, none⟩) (by simp) (.bool (a0 && e1))).setCell (p := ⟨za, 1, none⟩) (by simp) (.bool (a1 && e2))).setCell (p := ⟨za, 2, none⟩) (by simp) (.bool (a2 && !e6))
                have hA8 := ((hQ6.set_ 0 (.bool (a0 && e1))).set_ 1 (.bool (a1 && e2))).set_ 2 (.bool (a2 && !e6))
                simp only [List.setIfInBounds_toArray, List.set_cons_zero, List.set_cons_succ] at hA8
                have hE8 := (hE6.chg_ x6 (by simp)).chg_ hch7 (by simpa using hne5)
                have hc8 := (hc6.trans x6 (by simp)).trans hch7 (by intro i hi hm; simp at hm; omega)
                clear hch7 hQ6 x6 y6 hQ5 x5 y5 a0_ a1_ a2_ f0_ f1_ f2_ hHeld hA6 hE6 hc6 c3_ hM hOf
                generalize ((u6.setCell ⟨za, 0, none⟩ (.bool (a0 && e1))).setCell ⟨za, 1, none⟩ (.bool (a1 && e2))).setCell ⟨za, 2, none⟩ (.bool (a2 && !e6)) = w8 at *
                obtain ⟨e0_, e1_, e2_, e3_, e4_, e5_, e6_, e7_, e8_⟩ := wi_blk9 hE8
                go_wp2_with fail
                go_roundw
                case rel => exact ⟨z + 1, by omega, by rw [HN.out], by go_num, hc8, by rw [HME.out]; exact hA8⟩
                case measure => simp [intOf]; omega
              · go_simp
                (go_at_call 23; refine (hOf _).mono ?_; rintro e u5 ⟨rfl, y5⟩; have x5 : Chg [] w6 u5 := Chg.trans c3_ y5 (by simp); have hQ5 := hA6.chg_ x5 (by simp); clear a0_ a1_ a2_ f0_ f1_ f2_; obtain ⟨a0_, a1_, a2_, f0_, f1_, f2_⟩ := wi_blk3 hQ5)
                refine hK.out _ _ (by (try dsimp only); exact hE6.chg_ x5 (by simp)) (fun hHeld => ?_)
                clear hK K
                (try simp only [Act.put, List.setIfInBounds_toArray, List.set_cons_zero, List.set_cons_succ])
                refine wpAnyH_ready (rs := [0]) (by kernel_rfl) (by simp) ?_; refine AllReadyH.cons (o := _) rfl (fun K hK => ?_) AllReadyH.nil
                go_simp
                skip
                refine hK.out _ _ (by (try dsimp only); exact hHeld) (fun hHeld => ?_)
                clear hK K
                (try simp only [Act.put, List.setIfInBounds_toArray, List.set_cons_zero, List.set_cons_succ])
                refine wpAnyH_ready (rs := [3]) (by kernel_rfl) (by simp) ?_; refine AllReadyH.cons (o := _) rfl (fun K hK => ?_) AllReadyH.nil
                go_simp
                skip
                refine hK.out _ _ (by (try dsimp only); exact Blk.alloc hHeld _) (fun hHeld => ?_)
                clear hK K
                (try simp only [Act.put, List.setIfInBounds_toArray, List.set_cons_zero, List.set_cons_succ])
                refine wpAnyH_ready (rs := [4]) (by kernel_rfl) (by simp) ?_; refine AllReadyH.cons (o := _) rfl (fun K hK => ?_) AllReadyH.nil
                go_simp
                (go_at_call 24; refine (hM _ _ (Blk.new u5 32 _)).mono ?_; rintro e u6 ⟨rfl, y6⟩; have x6 : Chg [] w6 u6 := Chg.trans (Chg.alloc x5 (.cells #[.bool a0, .bool a1, .bool a2, .bool e1, .bool e2, .bool !e6] 32)) y6 (by simp); have hQ6 := hA6.chg_ x6 (by simp); clear a0_ a1_ a2_ f0_ f1_ f2_; obtain ⟨a0_, a1_, a2_, f0_, f1_, f2_⟩ := wi_blk3 hQ6)
                refine hK.out _ _ (by (try dsimp only); exact hE6.chg_ x6 (by simp)) (fun hHeld => ?_)
                clear hK K
                (try simp only [Act.put, List.setIfInBounds_toArray, List.set_cons_zero, List.set_cons_succ])
                refine wpAnyH_ready (rs := [5]) (by kernel_rfl) (by simp) ?_; refine AllReadyH.cons (o := _) rfl (fun K hK => ?_) AllReadyH.nil
                go_simp
                skip
                refine hK.out _ _ (by (try dsimp only); exact ((hHeld.far hne5 _).far hne5 _).far hne5 _) (fun hHeld => ?_)
                clear hK K
                (try simp only [Act.put, List.setIfInBounds_toArray, List.set_cons_zero, List.set_cons_succ])
                refine wpAnyH_done (by kernel_rfl) ?_ _
                refine NoPanic.normal ?_
                have hch7 := (((Chg.refl [za] u6).setCell (p := ⟨za, 0, none⟩) (by simp) (.bool (a0 && e1))).setCell (p := ⟨za, 1, none⟩) (by simp) (.bool (a1 && e2))).setCell (p := ⟨za, 2, none⟩) (by simp) (.bool (a2 && !e6))
                have hA8 := ((hQ6.set_ 0 (.bool (a0 && e1))).set_ 1 (.bool (a1 && e2))).set_ 2 (.bool (a2 && !e6))
                simp only [List.setIfInBounds_toArray, List.set_cons_zero, List.set_cons_succ] at hA8
                have hE8 := (hE6.chg_ x6 (by simp)).chg_ hch7 (by simpa using hne5)
                have hc8 := (hc6.trans x6 (by simp)).trans hch7 (by intro i hi hm; simp at hm; omega)
                clear hch7 hQ6 x6 y6 hQ5 x5 y5 a0_ a1_ a2_ f0_ f1_ f2_ hHeld hA6 hE6 hc6 c3_ hM hOf
                generalize ((u6.setCell ⟨za, 0, none⟩ (.bool (a0 && e1))).setCell ⟨za, 1, none⟩ (.bool (a1 && e2))).setCell ⟨za, 2, none⟩ (.bool (a2 && !e6)) = w8 at *
                obtain ⟨e0_, e1_, e2_, e3_, e4_, e5_, e6_, e7_, e8_⟩ := wi_blk9 hE8
                go_wp2_with fail
                go_roundw
                case rel => exact ⟨z + 1, by omega, by rw [HN.out], by go_num, hc8, by rw [HME.out]; exact hA8⟩
                case measure => simp [intOf]; omega
            · obtain rfl : z = pats.length := by omega
              rw [hRn] at hA
              have hPg := HPG.out
              rw [hpl] at hPg ⊢
              clear HPG
              have hA : Blk wr za 32 #[.bool prw, .bool pru, .bool prx] := hA
              obtain ⟨a0_, a1_, a2_, _, _, _⟩ := wi_blk3 hA
              obtain ⟨q0, q1, q2, q3, q4, q5, q6, _, _, _, _, _, _, _⟩ := blk7 b1_
              have cz : Chg [] w wr := cc1.trans hc (by simp)
              have hg0' : decide (pg ≥ 0) = true := by simpa using hg0
              have hgl' : decide (pg < 16) = true := by simpa using hgl
              have hwp : wrap64 (F 2 + pn % 8) = pg := by unfold wrap64; omega
              clear hwi hPg hF0 hR0 hRn s1_
              go_wp2_with fail
              refine (hMay _).mono ?_; rintro e y5 ⟨rfl, k5⟩
              have b1y := b1_.chg_ k5 (by simp)
              clear q0 q1 q2 q3 q4 q5 q6
              obtain ⟨q0, q1, q2, q3, q4, q5, q6, _, _, _, _, _, _, _⟩ := blk7 b1y
              go_wp2_with fail
              go_ret
              exact ⟨ret_bool (by simp), cz.trans k5 (by simp)⟩
        · simp only [Bool.false_eq_true, if_false] at hPg
          have HPG := Lib.hid hPg
          clear hPg
          go_wp2_with fail
          refine (Walk_is q S p L16 hh b 16 W root pn kn user ⟨pats, pg, ⟨prw, pru, prx⟩, false, pdy⟩ 0 0 _ hE2 g2 hwd hr).mono ?_; rintro e v1 ⟨A1, c1, rfl, r1, l1, k1⟩
          rw [show pathV A1 c1 ⟨pats, pg, ⟨prw, pru, prx⟩, false, pdy⟩ = #[.slice A1 3 c1, .int .i64 pg, .bool prw, .bool pru, .bool prx, .bool false, .bool pdy] from by simp only [pathV, hpl]]
          have x1 : Chg [] w2 (v1.alloc (.cells #[.slice A1 3 c1, .int .i64 pg, .bool prw, .bool pru, .bool prx, .bool false, .bool pdy] 34)) := k1.alloc _
          have cc1 := hca.trans x1 (by simp)
          have gg1 := g2.self x1
          have EE1 := hE2.self x1
          have b1_ := Blk.new v1 34 #[.slice A1 3 c1, .int .i64 pg, .bool prw, .bool pru, .bool prx, .bool false, .bool pdy]
          have s1_ := (OwnA.sla r1).self ((Chg.refl [] v1).alloc (.cells #[.slice A1 3 c1, .int .i64 pg, .bool prw, .bool pru, .bool prx, .bool false, .bool pdy] 34))
          have n1_ : ∀ g o, A1 = some ⟨g, o, none⟩ → g ≠ b := fun g o e => by have := l1 g (by rw [e]; simp [Value.ownBlock]); have := g2.hm.ws.lt; omega
          clear hca g2 hE2 r1 l1 k1 x1
          go_wp2_with fail
          generalize hwy : (v1.alloc (.cells #[.slice A1 3 c1, .int .i64 pg, .bool prw, .bool pru, .bool prx, .bool false, .bool pdy] 34)) = wy at *
          generalize v1.heap.size = z1 at *
          clear hwy EE1 hr
          refine (hAllR _).mono ?_; rintro e y1 ⟨rfl, ky⟩
          have hc0 : Chg [] wy (y1.alloc (.cells #[.bool true, .bool true, .bool true] 32)) := ky.alloc _
          have hA0 := Blk.new y1 32 #[.bool true, .bool true, .bool true]
          have hza := ky.size
          go_wp2_with fail
          generalize y1.alloc (.cells #[.bool true, .bool true, .bool true] 32) = wl at *
          generalize y1.heap.size = za at *
          clear ky hAllR
          go_loopw [18, 20] (fun f i w' => ∃ z : Nat, z ≤ pats.length ∧ f = .int .i64 (F z) ∧ i = .int .i64 z ∧ Chg [] wy w' ∧ Blk w' za 32 (R z).cs) (fun _ i _ => pats.length - (intOf i).toNat)
          case atStart => exact ⟨0, by omega, by rw [hF0], rfl, hc0, by rw [hR0]; exact hA0⟩
          case round =>
            clear hc0 hA0
            obtain ⟨z, hz, rfl, rfl, hc, hA⟩ := hrel
            have b1_ := b1_.chg_ hc (by simp); have s1_ := s1_.self hc
            by_cases hzl : z < pats.length
            · have hw := hwi z hzl
              have hzn : (z : Int) < 3 := by omega
              have hsub : wrap64 (3 - (z : Int)) = 3 - (z : Int) := by unfold wrap64; omega
              obtain ⟨hat, hrd, hep, heb, hun, hnx, hme⟩ := hw
              obtain ⟨hh', hgv⟩ := rdG_some hrd
              obtain ⟨_, r2, r3⟩ := rd_word hwd hh'
              rw [hgv] at r2 r3
              have hIx := fun w0 => (RIdx_any pn (3 - (z : Int)) w0).mono fun e w' (h : _ ∧ Dr w0 w') => (⟨h.1, h.2.chg⟩ : _ ∧ Chg [] w0 w')
              obtain ⟨ab, off, rfl, _, _, y0, y1_⟩ := s1_.get (k := z) hzl
              rw [hat] at y0 y1_
              simp only at y0 y1_
              have gr := gg1.self hc
              have hRz : (R z).cs = #[.bool (R z).w, .bool (R z).u, .bool (R z).x] := rfl
              rw [hRz] at hA
              clear hRz hat hrd
              have hcs : (getE (V z)).cs = #[.bool (getE (V z)).p, .bool (getE (V z)).w, .bool (getE (V z)).u, .bool (getE (V z)).a, .bool (getE (V z)).d, .bool (getE (V z)).s, .bool (getE (V z)).n, .bool (getE (V z)).bad, .int .i64 (getE (V z)).f] := rfl
              have hGet : ∀ w0 : World, Calls Tryd.prog 20 #[.int .u64 (V z)] w0 fun e w' => e = .returned (.agg (getE (V z)).cs) ∧ Chg [] w0 w' := fun w0 => RGet_any (V z) w0 r3
              rw [hcs, hep, heb] at hGet
              clear hcs
              have HN := Lib.hid hnx
              have HME : Hid ((R (z + 1)).cs = #[.bool ((R z).w && (getE (V z)).w), .bool ((R z).u && (getE (V z)).u), .bool ((R z).x && !(getE (V z)).n)]) := Lib.hid (by rw [hme]; rfl)
              have hOf : ∀ w0 : World, Calls Tryd.prog 23 #[.agg #[.bool true, .bool (getE (V z)).w, .bool (getE (V z)).u, .bool (getE (V z)).a, .bool (getE (V z)).d, .bool (getE (V z)).s, .bool (getE (V z)).n, .bool false, .int .i64 (getE (V z)).f]] w0 fun e w' => e = .returned (.agg #[.bool (getE (V z)).w, .bool (getE (V z)).u, .bool !(getE (V z)).n]) ∧ Chg [] w0 w' := fun w0 => ROf_any _ _ _ _ _ _ _ _ _ w0
              have hUn : ∀ w0 : World, Calls Tryd.prog 22 #[.agg #[.bool prw, .bool pru, .bool prx], .agg #[.bool (getE (V z)).w, .bool (getE (V z)).u, .bool !(getE (V z)).n]] w0 fun e w' => e = .returned (.bool true) ∧ Chg [] w0 w' := fun w0 => by
                have := RUnder_any ⟨prw, pru, prx⟩ (ofE (getE (V z))) w0
                rw [hun] at this
                exact this
              clear hun hme hnx hep heb hgv
              generalize (getE (V z)).w = e1 at *
              generalize (getE (V z)).u = e2 at *
              generalize (getE (V z)).a = e3 at *
              generalize (getE (V z)).d = e4 at *
              generalize (getE (V z)).s = e5 at *
              generalize (getE (V z)).n = e6 at *
              generalize (getE (V z)).f = e8 at *
              generalize (R z).w = a0 at *
              generalize (R z).u = a1 at *
              generalize (R z).x = a2 at *
              generalize V z = vv at *
              generalize F z = fz at *
              generalize idxI pn (3 - (z : Int)) = ix at *
              have hne := fun w0 => run_neA fz ix w0
              obtain ⟨q0, q1, q2, q3, q4, q5, q6, _, _, _, _, _, _, _⟩ := blk7 b1_
              have HG := fun m : Cls wr => (gu_get q S p L16 hh b 16 W fz ix _ true m.val (gr.self m.ok) r2 hh').mono fun e w' (hx : _ ∧ m.val = w') => (⟨hx.1, hx.2 ▸ Chg.refl [] m.val⟩ : _ ∧ Chg [] m.val w')
              have K0 := fun nq : Cls wr => nq.cell q0
              have K1 := fun nq : Cls wr => nq.cell y0
              have K2 := fun nq : Cls wr => nq.cell y1_
              go_wp2_with fail
              refine wp_region_cls (by kernel_rfl) (by kernel_rfl) ?_
              repeat (go_big_quiet_step ((go_at_call 19; with_reducible exact Calls.cls (HG _))))
              refine wpQuiet_nil ?_
              rintro _ ⟨nq, rfl⟩
              clear HG K0 K1 K2
              go_wp2_with fail
              refine (hGet _).mono ?_; rintro e w4 ⟨rfl, k4⟩
              have hE := Blk.new w4 48 #[.bool true, .bool e1, .bool e2, .bool e3, .bool e4, .bool e5, .bool e6, .bool false, .int .i64 e8]
              have x4 : Chg [] wr (w4.alloc (.cells #[.bool true, .bool e1, .bool e2, .bool e3, .bool e4, .bool e5, .bool e6, .bool false, .int .i64 e8] 48)) := (nq.ok.trans k4 (by simp)).alloc _
              have hA5 := hA.chg_ x4 (by simp)
              have hzle : za < w4.heap.size := (hA.chg_ (nq.ok.trans k4 (by simp)) (by simp)).lt
              have q0 := (x4.cell (World.block_lt_of_cell? _ _ q0) (by simp)).trans q0
              have q2 := (x4.cell (World.block_lt_of_cell? _ _ q2) (by simp)).trans q2
              have q3 := (x4.cell (World.block_lt_of_cell? _ _ q3) (by simp)).trans q3
              have q4 := (x4.cell (World.block_lt_of_cell? _ _ q4) (by simp)).trans q4
              have y0 := (x4.cell (World.block_lt_of_cell? _ _ y0) (by simp)).trans y0
              have y1_ := (x4.cell (World.block_lt_of_cell? _ _ y1_) (by simp)).trans y1_
              have hc5 := hc.trans x4 (by simp)
              have hne5 : w4.heap.size ≠ za := by omega
              clear hc hA x4 k4 b1_ s1_ q1 q5 q6 gr hGet
              go_wp2_with fail
              generalize w4.alloc (.cells #[.bool true, .bool e1, .bool e2, .bool e3, .bool e4, .bool e5, .bool e6, .bool false, .int .i64 e8] 48) = w5 at *
              generalize w4.heap.size = ze at *
              obtain ⟨e0_, e1_, e2_, e3_, e4_, e5_, e6_, e7_, e8_⟩ := wi_blk9 hE
              have HI := fun m : Cls w5 => hIx m.val
              have HO := fun m : Cls w5 => hOf m.val
              have HU := fun m : Cls w5 => hUn m.val
              have Kq0 := fun nq : Cls w5 => nq.cell q0
              have Kq2 := fun nq : Cls w5 => nq.cell q2
              have Kq3 := fun nq : Cls w5 => nq.cell q3
              have Kq4 := fun nq : Cls w5 => nq.cell q4
              have Ky0 := fun nq : Cls w5 => nq.cell y0
              have Ky1 := fun nq : Cls w5 => nq.cell y1_
              have Ke0 := fun nq : Cls w5 => nq.cell e0_
              have Ke1 := fun nq : Cls w5 => nq.cell e1_
              have Ke2 := fun nq : Cls w5 => nq.cell e2_
              have Ke3 := fun nq : Cls w5 => nq.cell e3_
              have Ke4 := fun nq : Cls w5 => nq.cell e4_
              have Ke5 := fun nq : Cls w5 => nq.cell e5_
              have Ke6 := fun nq : Cls w5 => nq.cell e6_
              have Ke7 := fun nq : Cls w5 => nq.cell e7_
              have Ke8 := fun nq : Cls w5 => nq.cell e8_
              refine wp_region_cls (by kernel_rfl) (by kernel_rfl) ?_
              repeat (go_big_quiet_step (first | (go_at_call 21; with_reducible exact Calls.cls (HI _)) | (go_at_call 23; with_reducible exact Calls.cls (HO _)) | (go_at_call 22; with_reducible exact Calls.cls (HU _))))
              refine wpQuiet_nil ?_
              rintro _ ⟨mq, rfl⟩
              have hE6 := hE.chg_ mq.ok (by simp)
              have hA6 := hA5.chg_ mq.ok (by simp)
              have hc6 := hc5.trans mq.ok (by simp)
              generalize mq.val = w6 at *
              clear mq hE hA5 hc5 HI HO HU hIx hUn q0 q2 q3 q4 y0 y1_ e0_ e1_ e2_ e3_ e4_ e5_ e6_ e7_ e8_ Kq0 Kq2 Kq3 Kq4 Ky0 Ky1 Ke0 Ke1 Ke2 Ke3 Ke4 Ke5 Ke6 Ke7 Ke8
              go_wp2_with fail
              have hM : ∀ (g : Nat) (w0 : World), Blk w0 g 32 #[.bool a0, .bool a1, .bool a2, .bool e1, .bool e2, .bool !e6] → Calls Tryd.prog 24 #[.slice (some ⟨g, 0, none⟩) 2 2] w0 fun e w' => e = .returned (.agg #[.bool (a0 && e1), .bool (a1 && e2), .bool (a2 && !e6)]) ∧ Chg [] w0 w' := fun g w0 hb => by
                  have := RMeet_any (some ⟨g, 0, none⟩) 2 2 [⟨a0, a1, a2⟩, ⟨e1, e2, !e6⟩] w0 (SlR.made2 _ _ hb) (by decide)
                  rwa [meet2] at this
              have c3_ : Chg [] w6 w6.drew := (Chg.refl [] w6).drew
              obtain ⟨a0_, a1_, a2_, f0_, f1_, f2_⟩ := wi_blk3 hA6
              refine wp_region_noPanic ?_
              refine wp_region_held_drew (S := (fun w' => Blk w' ze 48 #[.bool true, .bool e1, .bool e2, .bool e3, .bool e4, .bool e5, .bool e6, .bool false, .int .i64 e8])) (by kernel_rfl) ?_ (fun hHeld => ?_)
              · exact hE6
              (refine take_on 1 (some 141) (v := ?_) rfl rfl (by kernel_rfl) (by kernel_rfl) (by kernel_rfl) (fun _ _ _ h => h) (by rfl) (by assumption) ?_ ?_; rotate_left; · (intro w hSw; (try dsimp only at hSw); obtain ⟨e0_, e1_, e2_, e3_, e4_, e5_, e6_, e7_, e8_⟩ := wi_blk9 hSw; go_simp; (try with_reducible rfl)))
              (try simp only [Act.put, List.setIfInBounds_toArray, List.set_cons_zero, List.set_cons_succ])
              refine wpAnyH_ready (rs := [0, 2]) (by kernel_rfl) (by simp) ?_; refine AllReadyH.cons (o := _) rfl (fun K hK => ?_) (AllReadyH.cons (o := _) rfl (fun K hK => ?_) AllReadyH.nil)
              · go_simp
                skip
                refine hK.out _ _ (by (try dsimp only); exact hHeld) (fun hHeld => ?_)
                clear hK K
                (try simp only [Act.put, List.setIfInBounds_toArray, List.set_cons_zero, List.set_cons_succ])
                refine wpAnyH_ready (rs := [2]) (by kernel_rfl) (by simp) ?_; refine AllReadyH.cons (o := _) rfl (fun K hK => ?_) AllReadyH.nil
                go_simp
                (go_at_call 23; refine (hOf _).mono ?_; rintro e u5 ⟨rfl, y5⟩; have x5 : Chg [] w6 u5 := Chg.trans c3_ y5 (by simp); have hQ5 := hA6.chg_ x5 (by simp); clear a0_ a1_ a2_ f0_ f1_ f2_; obtain ⟨a0_, a1_, a2_, f0_, f1_, f2_⟩ := wi_blk3 hQ5)
                refine hK.out _ _ (by (try dsimp only); exact hE6.chg_ x5 (by simp)) (fun hHeld => ?_)
                clear hK K
                (try simp only [Act.put, List.setIfInBounds_toArray, List.set_cons_zero, List.set_cons_succ])
                refine wpAnyH_ready (rs := [3]) (by kernel_rfl) (by simp) ?_; refine AllReadyH.cons (o := _) rfl (fun K hK => ?_) AllReadyH.nil
                go_simp
                skip
                refine hK.out _ _ (by (try dsimp only); exact Blk.alloc hHeld _) (fun hHeld => ?_)
                clear hK K
                (try simp only [Act.put, List.setIfInBounds_toArray, List.set_cons_zero, List.set_cons_succ])
                refine wpAnyH_ready (rs := [4]) (by kernel_rfl) (by simp) ?_; refine AllReadyH.cons (o := _) rfl (fun K hK => ?_) AllReadyH.nil
                go_simp
                (go_at_call 24; refine (hM _ _ (Blk.new u5 32 _)).mono ?_; rintro e u6 ⟨rfl, y6⟩; have x6 : Chg [] w6 u6 := Chg.trans (Chg.alloc x5 (.cells #[.bool a0, .bool a1, .bool a2, .bool e1, .bool e2, .bool !e6] 32)) y6 (by simp); have hQ6 := hA6.chg_ x6 (by simp); clear a0_ a1_ a2_ f0_ f1_ f2_; obtain ⟨a0_, a1_, a2_, f0_, f1_, f2_⟩ := wi_blk3 hQ6)
                refine hK.out _ _ (by (try dsimp only); exact hE6.chg_ x6 (by simp)) (fun hHeld => ?_)
                clear hK K
                (try simp only [Act.put, List.setIfInBounds_toArray, List.set_cons_zero, List.set_cons_succ])
                refine wpAnyH_ready (rs := [5]) (by kernel_rfl) (by simp) ?_; refine AllReadyH.cons (o := _) rfl (fun K hK => ?_) AllReadyH.nil
                go_simp
                skip
                refine hK.out _ _ (by (try dsimp only); exact ((hHeld.far hne5 _).far hne5 _).far hne5 _) (fun hHeld => ?_)
                clear hK K
                (try simp only [Act.put, List.setIfInBounds_toArray, List.set_cons_zero, List.set_cons_succ])
                refine wpAnyH_done (by kernel_rfl) ?_ _
                refine NoPanic.normal ?_
                have hch7 := (((Chg.refl [za] u6).setCell (p := ⟨za, 0, none⟩) (by simp) (.bool (a0 && e1))).setCell (p := ⟨za, 1, none⟩) (by simp) (.bool (a1 && e2))).setCell (p := ⟨za, 2, none⟩) (by simp) (.bool (a2 && !e6))
                have hA8 := ((hQ6.set_ 0 (.bool (a0 && e1))).set_ 1 (.bool (a1 && e2))).set_ 2 (.bool (a2 && !e6))
                simp only [List.setIfInBounds_toArray, List.set_cons_zero, List.set_cons_succ] at hA8
                have hE8 := (hE6.chg_ x6 (by simp)).chg_ hch7 (by simpa using hne5)
                have hc8 := (hc6.trans x6 (by simp)).trans hch7 (by intro i hi hm; simp at hm; omega)
                clear hch7 hQ6 x6 y6 hQ5 x5 y5 a0_ a1_ a2_ f0_ f1_ f2_ hHeld hA6 hE6 hc6 c3_ hM hOf
                generalize ((u6.setCell ⟨za, 0, none⟩ (.bool (a0 && e1))).setCell ⟨za, 1, none⟩ (.bool (a1 && e2))).setCell ⟨za, 2, none⟩ (.bool (a2 && !e6)) = w8 at *
                obtain ⟨e0_, e1_, e2_, e3_, e4_, e5_, e6_, e7_, e8_⟩ := wi_blk9 hE8
                go_wp2_with fail
                go_roundw
                case rel => exact ⟨z + 1, by omega, by rw [HN.out], by go_num, hc8, by rw [HME.out]; exact hA8⟩
                case measure => simp [intOf]; omega
              · go_simp
                (go_at_call 23; refine (hOf _).mono ?_; rintro e u5 ⟨rfl, y5⟩; have x5 : Chg [] w6 u5 := Chg.trans c3_ y5 (by simp); have hQ5 := hA6.chg_ x5 (by simp); clear a0_ a1_ a2_ f0_ f1_ f2_; obtain ⟨a0_, a1_, a2_, f0_, f1_, f2_⟩ := wi_blk3 hQ5)
                refine hK.out _ _ (by (try dsimp only); exact hE6.chg_ x5 (by simp)) (fun hHeld => ?_)
                clear hK K
                (try simp only [Act.put, List.setIfInBounds_toArray, List.set_cons_zero, List.set_cons_succ])
                refine wpAnyH_ready (rs := [0]) (by kernel_rfl) (by simp) ?_; refine AllReadyH.cons (o := _) rfl (fun K hK => ?_) AllReadyH.nil
                go_simp
                skip
                refine hK.out _ _ (by (try dsimp only); exact hHeld) (fun hHeld => ?_)
                clear hK K
                (try simp only [Act.put, List.setIfInBounds_toArray, List.set_cons_zero, List.set_cons_succ])
                refine wpAnyH_ready (rs := [3]) (by kernel_rfl) (by simp) ?_; refine AllReadyH.cons (o := _) rfl (fun K hK => ?_) AllReadyH.nil
                go_simp
                skip
                refine hK.out _ _ (by (try dsimp only); exact Blk.alloc hHeld _) (fun hHeld => ?_)
                clear hK K
                (try simp only [Act.put, List.setIfInBounds_toArray, List.set_cons_zero, List.set_cons_succ])
                refine wpAnyH_ready (rs := [4]) (by kernel_rfl) (by simp) ?_; refine AllReadyH.cons (o := _) rfl (fun K hK => ?_) AllReadyH.nil
                go_simp
                (go_at_call 24; refine (hM _ _ (Blk.new u5 32 _)).mono ?_; rintro e u6 ⟨rfl, y6⟩; have x6 : Chg [] w6 u6 := Chg.trans (Chg.alloc x5 (.cells #[.bool a0, .bool a1, .bool a2, .bool e1, .bool e2, .bool !e6] 32)) y6 (by simp); have hQ6 := hA6.chg_ x6 (by simp); clear a0_ a1_ a2_ f0_ f1_ f2_; obtain ⟨a0_, a1_, a2_, f0_, f1_, f2_⟩ := wi_blk3 hQ6)
                refine hK.out _ _ (by (try dsimp only); exact hE6.chg_ x6 (by simp)) (fun hHeld => ?_)
                clear hK K
                (try simp only [Act.put, List.setIfInBounds_toArray, List.set_cons_zero, List.set_cons_succ])
                refine wpAnyH_ready (rs := [5]) (by kernel_rfl) (by simp) ?_; refine AllReadyH.cons (o := _) rfl (fun K hK => ?_) AllReadyH.nil
                go_simp
                skip
                refine hK.out _ _ (by (try dsimp only); exact ((hHeld.far hne5 _).far hne5 _).far hne5 _) (fun hHeld => ?_)
                clear hK K
                (try simp only [Act.put, List.setIfInBounds_toArray, List.set_cons_zero, List.set_cons_succ])
                refine wpAnyH_done (by kernel_rfl) ?_ _
                refine NoPanic.normal ?_
                have hch7 := (((Chg.refl [za] u6).setCell (p := ⟨za, 0, none⟩) (by simp) (.bool (a0 && e1))).setCell (p := ⟨za, 1, none⟩) (by simp) (.bool (a1 && e2))).setCell (p := ⟨za, 2, none⟩) (by simp) (.bool (a2 && !e6))
                have hA8 := ((hQ6.set_ 0 (.bool (a0 && e1))).set_ 1 (.bool (a1 && e2))).set_ 2 (.bool (a2 && !e6))
                simp only [List.setIfInBounds_toArray, List.set_cons_zero, List.set_cons_succ] at hA8
                have hE8 := (hE6.chg_ x6 (by simp)).chg_ hch7 (by simpa using hne5)
                have hc8 := (hc6.trans x6 (by simp)).trans hch7 (by intro i hi hm; simp at hm; omega)
                clear hch7 hQ6 x6 y6 hQ5 x5 y5 a0_ a1_ a2_ f0_ f1_ f2_ hHeld hA6 hE6 hc6 c3_ hM hOf
                generalize ((u6.setCell ⟨za, 0, none⟩ (.bool (a0 && e1))).setCell ⟨za, 1, none⟩ (.bool (a1 && e2))).setCell ⟨za, 2, none⟩ (.bool (a2 && !e6)) = w8 at *
                obtain ⟨e0_, e1_, e2_, e3_, e4_, e5_, e6_, e7_, e8_⟩ := wi_blk9 hE8
                go_wp2_with fail
                go_roundw
                case rel => exact ⟨z + 1, by omega, by rw [HN.out], by go_num, hc8, by rw [HME.out]; exact hA8⟩
                case measure => simp [intOf]; omega
            · obtain rfl : z = pats.length := by omega
              rw [hRn] at hA
              have hPg := HPG.out
              rw [hpl] at hPg ⊢
              clear HPG
              have hA : Blk wr za 32 #[.bool prw, .bool pru, .bool prx] := hA
              obtain ⟨a0_, a1_, a2_, _, _, _⟩ := wi_blk3 hA
              obtain ⟨q0, q1, q2, q3, q4, q5, q6, _, _, _, _, _, _, _⟩ := blk7 b1_
              have cz : Chg [] w wr := cc1.trans hc (by simp)
              have hg0' : decide (pg ≥ 0) = true := by simpa using hg0
              have hgl' : decide (pg < 16) = true := by simpa using hgl
              rw [← hPg]
              clear hwi hPg hF0 hR0 hRn s1_
              go_wp2_with fail
              refine (hMay _).mono ?_; rintro e y5 ⟨rfl, k5⟩
              have b1y := b1_.chg_ k5 (by simp)
              clear q0 q1 q2 q3 q4 q5 q6
              obtain ⟨q0, q1, q2, q3, q4, q5, q6, _, _, _, _, _, _, _⟩ := blk7 b1y
              go_wp2_with fail
              go_ret
              exact ⟨ret_bool (by simp), cz.trans k5 (by simp)⟩
      · obtain ⟨rfl, hcode⟩ := walk_zero hr hz
        go_wp2_with fail
        refine (Walk_is q S p L16 hh b 16 W root pn kn user Pa.zero how code _ hE2 g2 hwd hr).mono ?_; rintro e v1 ⟨A1, c1, rfl, r1, l1, k1⟩
        rw [show pathV A1 c1 Pa.zero = #[.slice A1 0 c1, .int .i64 0, .bool false, .bool false, .bool false, .bool false, .bool false] from rfl]
        have x1 : Chg [] w2 (v1.alloc (.cells #[.slice A1 0 c1, .int .i64 0, .bool false, .bool false, .bool false, .bool false, .bool false] 34)) := k1.alloc _
        have cc1 := hca.trans x1 (by simp)
        have gg1 := g2.self x1
        have EE1 := hE2.self x1
        have b1_ := Blk.new v1 34 #[.slice A1 0 c1, .int .i64 0, .bool false, .bool false, .bool false, .bool false, .bool false]
        have s1_ := (OwnA.sla r1).self ((Chg.refl [] v1).alloc (.cells #[.slice A1 0 c1, .int .i64 0, .bool false, .bool false, .bool false, .bool false, .bool false] 34))
        have n1_ : ∀ g o, A1 = some ⟨g, o, none⟩ → g ≠ b := fun g o e => by have := l1 g (by rw [e]; simp [Value.ownBlock]); have := g2.hm.ws.lt; omega
        clear hca g2 hE2 r1 l1 k1 x1
        obtain ⟨q0, q1, q2, q3, q4, q5, q6, _, _, _, _, _, _, _⟩ := blk7 b1_
        have hS := fun w0 (hc : Chg [] (v1.alloc (.cells #[.slice A1 0 c1, .int .i64 0, .bool false, .bool false, .bool false, .bool false, .bool false] 34)) w0) => Same_eq A1 none c1 0 Pa.zero w0 (s1_.self hc) (SlA.nil _) (by decide)
        skip
        clear hr
        rcases hcode with ⟨rfl, rfl⟩ | ⟨rfl, hc0, hc1⟩
        · go_wp2_with fail
          refine (hS _ (Chg.refl [] _)).mono ?_; rintro e y1 ⟨rfl, t1⟩
          go_wp2_with fail
          go_ret
          exact ⟨ret_bool (by simp), cc1.trans t1 (by simp)⟩
        · have hc0' : decide (code ≥ 0) = true := by simpa using hc0
          have hc1' : decide (code < 32) = true := by simpa using hc1
          go_wp2_with fail
          refine (hS _ (Chg.refl [] _)).mono ?_; rintro e y1 ⟨rfl, t1⟩
          go_wp2_with fail
          go_ret
          exact ⟨ret_bool (by simp), cc1.trans t1 (by simp)⟩

end Go.Proofs.YtdfmlodmaipnkaaDoor
