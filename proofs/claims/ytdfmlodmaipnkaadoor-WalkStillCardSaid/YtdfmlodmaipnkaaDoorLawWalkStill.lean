/-
  WalkStill: the walk.
-/
import Derived.Test.YtdfmlodmaipnkaaDoorWalkHead
import Derived.Test.YtdfmlodmaipnkaaDoorWalkK
import Derived.Test.YtdfmlodmaipnkaaDoorReads
namespace Go.Proofs.YtdfmlodmaipnkaaDoor
open Go.RowKit Go.Maps

/-- an own row of words is a slice of words -/
theorem OwnI.slw {w : World} {t : TypeId} {A : Option Addr} {n c : Nat} {L : List Int} (h : OwnI w t .u64 (.slice A n c) L) : SlU w A n L := by
  have hn := h.slice
  subst hn
  exact own_slu h

set_option maxRecDepth 100000 in
set_option maxHeartbeats 16000000 in
theorem WalkStill_walk (A : Option Addr) (m c : Nat) (l : List Pu) (root page kind : Int) (user : Bool) (v : Int) (w : World) (h : SlP w A m l) (hr0 : 0 ≤ root ∧ root ≤ 255) (hp0 : 0 ≤ page ∧ page ≤ 65535) (hk0 : 0 ≤ kind ∧ kind ≤ 255) (hv0 : 0 ≤ v ∧ v ≤ 18446744073709551615) (hE : ErrIn w) :
    Calls Tryd.prog 3 #[.slice A m c, .int .u8 root, .int .u16 page, .int .u8 kind, .bool user, .int .u64 v] w fun e w' => e = .returned (.bool true) ∧ Chg [] w w' := by
  have hwd := made_wd l h.wf
  have hl := h.le
  go_enter Tryd.func3, Tryd.ntmps3
  go_wp2_with fail
  refine (Wahead_any _ hE).mono ?_; rintro e w1 ⟨rfl, hc1⟩
  go_wp2_with fail
  refine (Made_at A m c l _ (h.self hc1)).mono ?_; rintro e w2 ⟨q, S, p, hh, b, rfl, hc2, g2, hb⟩
  have hca : Chg [] w w2 := hc1.trans hc2 (by simp)
  have hbw : w.heap.size ≤ b := by have := hc1.size; omega
  have hE2 := hE.self hca
  have hpos : 0 < w.heap.size := World.block_lt_of_cell? _ _ hE
  generalize madeW l = W at *
  obtain ⟨hwd, hWl⟩ := hwd
  clear hc1 hc2 hb h hE
  by_cases hbig : (m : Int) > 600
  · go_wp2_with fail
    go_ret
    exact ⟨rfl, hca⟩
  · have hrm : Int.tmod root 16 = root % 16 := Int.tmod_eq_emod_of_nonneg hr0.1
    have hpm : Int.tmod page 512 = page % 512 := Int.tmod_eq_emod_of_nonneg hp0.1
    have hkm : Int.tmod kind 3 = kind % 3 := Int.tmod_eq_emod_of_nonneg hk0.1
    have hpr : 0 ≤ page % 512 ∧ page % 512 < 512 := by omega
    have hrr : 0 ≤ root % 16 ∧ root % 16 < 16 := by omega
    have hkr : 0 ≤ kind % 3 ∧ kind % 3 < 3 := by omega
    generalize hpd : page % 512 = pn at *
    generalize hkd : kind % 3 = kn at *
    generalize hrd : root % 16 = rn at *
    have HV := Lib.hid hv0
    clear hr0 hp0 hk0 hv0
    cases hr : walkP 16 W L16 rn pn kn user with
    | mk P hc =>
      obtain ⟨how, code⟩ := hc
      have hlen := walk_len hr
      obtain ⟨pats, pg, ⟨prw, pru, prx⟩, plg, pdy⟩ := P
      have hlen' : pats.length ≤ 3 := hlen
      clear hlen
      have hAll1 := GuAll_at q S p L16 hh b 16 W _ g2
      simp only [L16_len, Nat.reduceMul] at hAll1
      go_wp2_with fail
      refine hAll1.mono ?_; rintro e u5 ⟨A5, k5_, rfl, k5, ho5, _⟩
      change OwnI u5 _ _ (.slice A5 128 k5_) _ at ho5
      have c5 := hca.trans k5 (by simp)
      have g5 := g2.self k5
      have E5 := hE2.self k5
      clear hAll1 hca g2 hE2 k5
      go_wp2_with fail
      refine (Walk_is q S p L16 hh b 16 W rn pn kn user ⟨pats, pg, ⟨prw, pru, prx⟩, plg, pdy⟩ how code _ E5 g5 hwd hr).mono ?_; rintro e v1 ⟨A1, c1, rfl, r1, l1, k1⟩
      rw [show pathV A1 c1 ⟨pats, pg, ⟨prw, pru, prx⟩, plg, pdy⟩ = #[.slice A1 pats.length c1, .int .i64 pg, .bool prw, .bool pru, .bool prx, .bool plg, .bool pdy] from rfl]
      have x1 : Chg [] u5 (v1.alloc (.cells #[.slice A1 pats.length c1, .int .i64 pg, .bool prw, .bool pru, .bool prx, .bool plg, .bool pdy] 34)) := k1.alloc _
      have cc1 := c5.trans x1 (by simp)
      have gg1 := g5.self x1
      have EE1 := E5.self x1
      have b1_ := Blk.new v1 34 #[.slice A1 pats.length c1, .int .i64 pg, .bool prw, .bool pru, .bool prx, .bool plg, .bool pdy]
      have s1_ := (OwnA.sla r1).self ((Chg.refl [] v1).alloc (.cells #[.slice A1 pats.length c1, .int .i64 pg, .bool prw, .bool pru, .bool prx, .bool plg, .bool pdy] 34))
      have n1_ : ∀ g o, A1 = some ⟨g, o, none⟩ → g ≠ b := fun g o e => by have := l1 g (by rw [e]; simp [Value.ownBlock]); have := g5.hm.ws.lt; omega
      have ho5 := ho5.chg x1 (by simp)
      clear c5 g5 E5 r1 l1 k1 x1
      have hAll2 := GuAll_at q S p L16 hh b 16 W _ gg1
      simp only [L16_len, Nat.reduceMul] at hAll2
      go_wp2_with fail
      refine hAll2.mono ?_; rintro e u8 ⟨A8, k8_, rfl, k8, ho8, _⟩
      change OwnI u8 _ _ (.slice A8 128 k8_) _ at ho8
      have ho5 := ho5.chg k8 (by simp)
      have c8 := cc1.trans k8 (by simp)
      have g8 := gg1.self k8
      have E8 := EE1.self k8
      have b1_ := b1_.chg_ k8 (by simp)
      have s1_ := s1_.self k8
      clear cc1 gg1 EE1 k8 hAll2
      go_wp2_with fail
      refine (SameWords_any A8 A5 _ _ k8_ k5_ _ _ _ ho8.slw ho5.slw (by omega) (by omega)).mono ?_; rintro e w10 ⟨rfl, k10, rfl⟩
      rw [eqL_self]
      have x10 := (Chg.refl [] u8).drewN k10
      generalize u8.drewN k10 = w10 at *
      have c10 := c8.trans x10 (by simp)
      have g10 := g8.self x10
      have E10 := E8.self x10
      have b1_ := b1_.chg_ x10 (by simp)
      have s1_ := s1_.self x10
      clear c8 g8 E8 x10 ho5 ho8
      have hRd := Reads_at q S p hh b W rn pn _ g10 hwd
      go_wp2_with fail
      refine hRd.mono ?_; rintro e w11 ⟨rv, rl, rfl, hrl, hr3, k11, hrow⟩
      have HRL := Lib.hid hrl
      clear hrl
      obtain ⟨AR, cr, rfl, _, _⟩ := own_form hrow
      have nR : ∀ g o, AR = some ⟨g, o, none⟩ → g ≠ b := fun g o e => by have := own_low hrow g (by rw [e]; simp [Value.ownBlock]); have := g10.hm.ws.lt; omega
      have sR := OwnA.sla (own_weak hrow (Nat.zero_le _))
      have c11 := c10.trans k11 (by simp)
      have g11 := g10.self k11
      have E11 := E10.self k11
      have b1_ := b1_.chg_ k11 (by simp)
      have s1_ := s1_.self k11
      have hK0 : Kept rl W W := Kept.refl hwd hWl
      clear hRd hrow k11 c10 g10 E10
      go_wp2_with fail
      go_loopw [22] (fun f w' => ∃ F : Nat, F ≤ 16 ∧ f = .int .i64 F ∧ ∃ W', Chg [b] w11 w' ∧ GuIn w' q S p L16 hh b 16 W' ∧ Kept rl W W') (fun f _ => 16 - (intOf f).toNat)
      case atStart => exact ⟨0, by omega, rfl, W, Chg.refl _ w11, g11, hK0⟩
      case round =>
        obtain ⟨F, hF, rfl, W1, hc, g12, hK⟩ := hrel
        by_cases hFl : F < 16
        · clear hK0 g11
          have hFd : decide ((F : Int) < 16) = true := by simp; omega
          go_wp2_with fail
          go_loopw [23] (fun i w' => ∃ I : Nat, I ≤ 8 ∧ i = .int .i64 I ∧ ∃ W', Chg [b] wr w' ∧ GuIn w' q S p L16 hh b 16 W' ∧ Kept rl W W') (fun i _ => 8 - (intOf i).toNat)
          case atStart => exact ⟨0, by omega, rfl, W1, Chg.refl _ wr, g12, hK⟩
          case round =>
            clear hK g12
            obtain ⟨I, hI, rfl, W2, hc2, g13, hK2⟩ := hrel
            have hcc := hc.trans hc2 (by intro i hi hm; exact hm)
            by_cases hIl : I < 8
            · have sR := sR.chg hcc (fun g o e => by rw [List.mem_singleton]; exact nR g o e)
              have hId : decide ((I : Int) < 8) = true := by simp; omega
              have HK := Lib.hid hK2
              clear hK2
              go_wp2_with fail
              go_loopw [24, 25] (fun mi j w' => ∃ z : Nat, z ≤ rl.length ∧ j = .int .i64 z ∧ Chg [] wr w' ∧ mi = .bool ((rl.take z).any (fun x => eqA x ((F : Int), (I : Int))))) (fun _ j _ => rl.length - (intOf j).toNat)
              case atStart => exact ⟨0, by omega, rfl, Chg.refl [] wr, rfl⟩
              case round =>
                obtain ⟨z, hz, rfl, hc3, rfl⟩ := hrel
                by_cases hzl : z < rl.length
                · obtain ⟨ab, off, rfl, _, hx, y0, y1⟩ := (sR.self hc3).get (k := z) hzl
                  have hany : (rl.take (z + 1)).any (fun x => eqA x ((F : Int), (I : Int))) = ((rl.take z).any (fun x => eqA x ((F : Int), (I : Int))) || eqA (rl.getD z (0, 0)) ((F : Int), (I : Int))) := by
                    rw [List.take_succ_eq_append_getElem hzl, List.any_append]
                    simp [List.getD_eq_getElem?_getD, List.getElem?_eq_getElem hzl]
                  generalize (rl.take z).any (fun x => eqA x ((F : Int), (I : Int))) = mi at *
                  have HANY := Lib.hid hany
                  clear hany hx
                  generalize rl.getD z (0, 0) = xx at *
                  obtain ⟨xg, xi⟩ := xx
                  try simp only at y0
                  try simp only at y1
                  have hq := fun w0 => run_eqlA xg xi (F : Int) (I : Int) w0
                  cases mi
                  all_goals
                    go_wp2_with fail
                    go_roundw
                    case rel => exact ⟨z + 1, by omega, by go_num, hc3, by rw [HANY.out]; simp⟩
                    case measure => simp [intOf]; omega
                · obtain rfl : z = rl.length := by omega
                  rw [List.take_length]
                  have g14 := g13.self hc3
                  generalize hany : rl.any (fun x => eqA x ((F : Int), (I : Int))) = mi at *
                  have hhas : hasG 16 L16 (F : Int) (I : Int) = true := by rw [hasG_16]; simp; omega
                  cases mi with
                  | true =>
                    clear hany hhas
                    go_wp2_with fail
                    go_roundw
                    case rel => exact ⟨I + 1, by omega, by go_num, W2, hc2.trans hc3 (by simp), g14, HK.out⟩
                    case measure => simp [intOf]; omega
                  | false =>
                    have HK3 : Hid (Kept rl W (setG 16 W2 L16 F I v)) := Lib.hid (HK.out.set_ (by omega) (by omega) (by have := HV.out; omega) (by simpa only [eqA_dec] using hany))
                    have hSet := gu_set q S p L16 hh b 16 W2 F I v true _ _ g14 hhas rfl
                    clear hany hhas
                    go_wp2_with fail
                    refine hSet.mono ?_; rintro e w15 ⟨rfl, k15, g15⟩
                    go_wp2_with fail
                    go_roundw
                    case rel => exact ⟨I + 1, by omega, by go_num, _, (hc2.trans hc3 (by simp)).trans k15 (by intro i hi hm; exact hm), g15, HK3.out⟩
                    case measure => simp [intOf]; omega
            · obtain rfl : I = 8 := by omega
              go_wp2_with fail
              go_roundw
              case rel => exact ⟨F + 1, by omega, by go_num, W2, hcc, g13, hK2⟩
              case measure => simp [intOf]; omega
        · obtain rfl : F = 16 := by omega
          have hr2 : walkP 16 W1 L16 rn pn kn user = (⟨pats, pg, ⟨prw, pru, prx⟩, plg, pdy⟩, how, code) := by rw [Kept.walk (HRL.out ▸ hK), hr]
          have hwd1 := hK.wd
          have b1_ := b1_.chg_ hc (by rw [List.mem_singleton]; exact fun e => Blk.type_ne b1_ (e ▸ g11.hm.ws) (by decide) rfl)
          have s1_ := s1_.chg hc (fun g o e => by rw [List.mem_singleton]; exact n1_ g o e)
          have E12 := E11.chg hc (by rw [List.mem_singleton]; omega)
          have c12 : Chg [] w wr := c11.trans hc (by intro i hi hm; rw [List.mem_singleton] at hm; omega)
          clear hc hK hK0 g11 E11 c11 sR nR hr HRL HV
          go_wp2_with fail
          refine (Walk_is q S p L16 hh b 16 W1 rn pn kn user ⟨pats, pg, ⟨prw, pru, prx⟩, plg, pdy⟩ how code _ E12 g12 hwd1 hr2).mono ?_; rintro e v2 ⟨A2, c2, rfl, r2, l2, k2⟩
          rw [show pathV A2 c2 ⟨pats, pg, ⟨prw, pru, prx⟩, plg, pdy⟩ = #[.slice A2 pats.length c2, .int .i64 pg, .bool prw, .bool pru, .bool prx, .bool plg, .bool pdy] from rfl]
          have x2 : Chg [] wr (v2.alloc (.cells #[.slice A2 pats.length c2, .int .i64 pg, .bool prw, .bool pru, .bool prx, .bool plg, .bool pdy] 34)) := k2.alloc _
          have cc2 := c12.trans x2 (by simp)
          have gg2 := g12.self x2
          have EE2 := E12.self x2
          have b2_ := Blk.new v2 34 #[.slice A2 pats.length c2, .int .i64 pg, .bool prw, .bool pru, .bool prx, .bool plg, .bool pdy]
          have s2_ := (OwnA.sla r2).self ((Chg.refl [] v2).alloc (.cells #[.slice A2 pats.length c2, .int .i64 pg, .bool prw, .bool pru, .bool prx, .bool plg, .bool pdy] 34))
          have n2_ : ∀ g o, A2 = some ⟨g, o, none⟩ → g ≠ b := fun g o e => by have := l2 g (by rw [e]; simp [Value.ownBlock]); have := g12.hm.ws.lt; omega
          have b1_ := b1_.chg_ x2 (by simp); have s1_ := s1_.self x2
          clear c12 g12 E12 r2 l2 k2 x2
          obtain ⟨q0, q1, q2, q3, q4, q5, q6, _, _, _, _, _, _, _⟩ := blk7 b1_
          obtain ⟨r0, r1, r2, r3, r4, r5, r6, _, _, _, _, _, _, _⟩ := blk7 b2_
          go_wp2_with fail
          refine (Same_eq A1 A2 c1 c2 ⟨pats, pg, ⟨prw, pru, prx⟩, plg, pdy⟩ _ s1_ s2_ (Nat.le_trans hlen' (by decide))).mono ?_; rintro e y1 ⟨rfl, t1⟩
          have t1_ : (how == how) = true := by simp
          have t2_ : (code == code) = true := by simp
          go_wp2_with fail
          go_ret
          exact ⟨ret_bool (by simp), cc2.trans t1 (by simp)⟩

end Go.Proofs.YtdfmlodmaipnkaaDoor
