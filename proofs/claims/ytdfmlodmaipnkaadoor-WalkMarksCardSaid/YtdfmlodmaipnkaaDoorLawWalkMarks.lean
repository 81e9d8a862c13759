/-
  WalkMarks: the walk.
-/
import Derived.Test.YtdfmlodmaipnkaaDoorWalkHead
import Derived.Test.YtdfmlodmaipnkaaDoorWalkK
import Derived.Test.YtdfmlodmaipnkaaDoorTwice
import Derived.Test.YtdfmlodmaipnkaaDoorGuestC
import Derived.Test.YtdfmlodmaipnkaaDoorRefA
namespace Go.Proofs.YtdfmlodmaipnkaaDoor
open Go.RowKit Go.Maps

theorem mk_bits {a b : Nat} (h : Mk a b) : b &&& (18446744073709551615 - 96) = a &&& (18446744073709551615 - 96) ∧ b &&& a = a := by
  obtain ⟨x, hx, rfl⟩ := h
  refine ⟨?_, ?_⟩
  · refine and_or_off ?_
    rcases hx with rfl | rfl | rfl | rfl <;> decide
  · apply Nat.eq_of_testBit_eq; intro i
    rw [Nat.testBit_and, Nat.testBit_or]
    cases a.testBit i <;> simp
theorem mk_word {W : List Int} {pats : List (Int × Int)} {t : Bool} (hW : WdW W) (hl : W.length = 8 * 16) (hall : allAts 16 L16 pats = true) {k : Nat} (hk : k < 128) :
    ∃ a b : Nat, a < 18446744073709551616 ∧ b < 18446744073709551616 ∧ (allG W L16).getD k 0 = (a : Int) ∧ (allG (markTo 16 L16 pats t W pats.length) L16).getD k 0 = (b : Int) ∧ Mk a b ∧ (pats.any (fun x => 8 * x.1 + x.2 == (k : Int)) = false → a = b) := by
  have hk8 : k < 8 * L16.length := by rw [L16_len]; omega
  have hh : hasG 16 L16 ((k / 8 : Nat) : Int) ((k % 8 : Nat) : Int) = true := by rw [hasG_16]; simp; omega
  have hW3 := hW.mark_to 16 L16 pats t pats.length
  obtain ⟨_, r2, r3⟩ := rd_word hW hh
  obtain ⟨_, q2, q3⟩ := rd_word hW3 hh
  obtain ⟨m1, m2, _⟩ := markTo_at L16_ok.inh (by decide) hl hall t pats.length (Nat.le_refl _) _ _ hh
  have e : 8 * (k / 8) + k % 8 = k := by omega
  refine ⟨_, _, r3, q3, ?_, ?_, m1, fun hno => ?_⟩
  · rw [← r2, getG_nat L16_ok.inh (by rw [L16_len]; omega) (by omega), e, allG_get W hk8]
  · rw [← q2, getG_nat L16_ok.inh (by rw [L16_len]; omega) (by omega), e, allG_get _ hk8]
  · rw [m2]
    intro j hj ej
    rw [List.any_eq_false] at hno
    have hm : pats.getD j (0, 0) ∈ pats := by
      simp only [List.getD_eq_getElem?_getD, List.getElem?_eq_getElem hj, Option.getD_some]; exact List.getElem_mem hj
    refine hno _ hm ?_
    rw [ej]; simp; omega

set_option maxRecDepth 100000 in
set_option maxHeartbeats 16000000 in
theorem WalkMarks_walk (A : Option Addr) (m c : Nat) (l : List Pu) (root page kind : Int) (user written : Bool) (w : World) (h : SlP w A m l) (hr0 : 0 ≤ root ∧ root ≤ 255) (hp0 : 0 ≤ page ∧ page ≤ 65535) (hk0 : 0 ≤ kind ∧ kind ≤ 255) (hE : ErrIn w) :
    Calls Tryd.prog 5 #[.slice A m c, .int .u8 root, .int .u16 page, .int .u8 kind, .bool user, .bool written] w fun e w' => e = .returned (.bool true) ∧ Chg [] w w' := by
  have hwd := made_wd l h.wf
  have hl := h.le
  go_enter Tryd.func5, Tryd.ntmps5
  go_wp2_with fail
  refine (Wahead_any _ hE).mono ?_; rintro e w1 ⟨rfl, hc1⟩
  go_wp2_with fail
  refine (Made_at A m c l _ (h.self hc1)).mono ?_; rintro e w2 ⟨q, S, p, hh, b, rfl, hc2, g2, hb⟩
  have hca : Chg [] w w2 := hc1.trans hc2 (by simp)
  have hbw : w.heap.size ≤ b := by have := hc1.size; omega
  have hE2 := hE.self hca
  have hpos : 0 < w.heap.size := World.block_lt_of_cell? _ _ hE
  generalize madeW l = W at *
  obtain ⟨hwd, hWl⟩ := hwd
  clear hc1 hc2 hb h hE
  by_cases hbig : (m : Int) > 600
  · go_wp2_with fail
    go_ret
    exact ⟨rfl, hca⟩
  · have hrm : Int.tmod root 16 = root % 16 := Int.tmod_eq_emod_of_nonneg hr0.1
    have hpm : Int.tmod page 512 = page % 512 := Int.tmod_eq_emod_of_nonneg hp0.1
    have hkm : Int.tmod kind 3 = kind % 3 := Int.tmod_eq_emod_of_nonneg hk0.1
    have hpr : 0 ≤ page % 512 ∧ page % 512 < 512 := by omega
    have hrr : 0 ≤ root % 16 ∧ root % 16 < 16 := by omega
    have hkr : 0 ≤ kind % 3 ∧ kind % 3 < 3 := by omega
    generalize hpd : page % 512 = pn at *
    generalize hkd : kind % 3 = kn at *
    generalize hrd : root % 16 = rn at *
    cases hr : walkP 16 W L16 rn pn kn user with
    | mk P hc =>
      obtain ⟨how, code⟩ := hc
      by_cases hz : how = 0
      · subst hz
        obtain ⟨rfl, hpath, hmay, hgl⟩ := done_of hr
        have hall := path_has hpath
        have hle := walk_len hr
        have hnl : 2 ≤ P.ats.length := by rcases path_len hpath with h | h <;> omega
        obtain ⟨v0, v1', hv0, hv1, hd0, hp2⟩ := path_mk (rd' := rdG 16 (markTo 16 L16 P.ats written W P.ats.length) L16) hpath (fun g i v hv => by
          obtain ⟨hh', hg'⟩ := rdG_some hv
          obtain ⟨m1, _, _⟩ := markTo_at L16_ok.inh (by decide) hWl hall written P.ats.length (Nat.le_refl _) g i hh'
          exact ⟨_, rdG_of hh', by rw [← hg']; exact m1⟩)
        have hdirty : (getE v1').d = (P.dirty || written) ∨ ¬ P.ats.Nodup := by
          by_cases hnd : P.ats.Nodup
          · left
            obtain ⟨hh', hg'⟩ := rdG_some hv0
            obtain ⟨_, hg''⟩ := rdG_some hv1
            have hk1 : P.ats.length - 1 + 1 = P.ats.length := by omega
            have hl := markTo_last L16_ok.inh (by decide) hWl hall written hk1 (fun j hj e => by
              have h1 : j < P.ats.length := by omega
              have h2 : P.ats.length - 1 < P.ats.length := by omega
              simp only [List.getD_eq_getElem?_getD, List.getElem?_eq_getElem h1, List.getElem?_eq_getElem h2, Option.getD_some] at e
              have := (List.getElem_inj hnd).1 e
              omega)
            unfold lastP at hg' hg''
            rw [hl, hg'] at hg''
            rw [← hg'', Int.toNat_natCast, used_d, hd0]
          · exact .inr hnd
        have hw2 := walk_of hp2 hmay hgl
        have hua := used_all L16_ok.inh (by decide) hWl hall written
        have hmp : markP 16 L16 P.ats written W = markTo 16 L16 P.ats written W P.ats.length := by unfold markP; rw [if_pos hall]
        have hwd3 := hwd.mark_to 16 L16 P.ats written P.ats.length
        have hmw := fun {k : Nat} (hk : k < 128) => mk_word (t := written) hwd hWl hall hk
        have hbd : ∀ z, z < P.ats.length → 0 ≤ (P.ats.getD z (0, 0)).1 ∧ (P.ats.getD z (0, 0)).1 < 16 ∧ 0 ≤ (P.ats.getD z (0, 0)).2 ∧ (P.ats.getD z (0, 0)).2 < 8 := fun z hz => by
          have := allAts_get hall hz
          rw [hasG_16] at this; simpa using this
        obtain ⟨pats, pg, ⟨prw, pru, prx⟩, plg, pdy⟩ := P
        simp only at hle hnl hall hdirty hw2 hua hmp hwd3 hmw hbd
        generalize hW3 : markTo 16 L16 pats written W pats.length = W3 at *
        generalize (getE v1').d = d2 at *
        clear hv0 hv1 hd0 hp2 hpath hmay hgl hWl hW3
        have hs2 : w.heap.size ≤ w2.heap.size := hca.size
        go_wp2_with fail
        refine (Walk_is q S p L16 hh b 16 W rn pn kn user ⟨pats, pg, ⟨prw, pru, prx⟩, plg, pdy⟩ 0 0 _ hE2 g2 hwd hr).mono ?_; rintro e v1 ⟨A1, c1, rfl, r1, l1, k1⟩
        rw [show pathV A1 c1 ⟨pats, pg, ⟨prw, pru, prx⟩, plg, pdy⟩ = #[.slice A1 pats.length c1, .int .i64 pg, .bool prw, .bool pru, .bool prx, .bool plg, .bool pdy] from rfl]
        have x1 : Chg [] w2 (v1.alloc (.cells #[.slice A1 pats.length c1, .int .i64 pg, .bool prw, .bool pru, .bool prx, .bool plg, .bool pdy] 34)) := k1.alloc _
        have cc1 := hca.trans x1 (by simp)
        have gg1 := g2.self x1
        have EE1 := hE2.self x1
        have b1_ := Blk.new v1 34 #[.slice A1 pats.length c1, .int .i64 pg, .bool prw, .bool pru, .bool prx, .bool plg, .bool pdy]
        have s1_ := (OwnA.sla r1).self ((Chg.refl [] v1).alloc (.cells #[.slice A1 pats.length c1, .int .i64 pg, .bool prw, .bool pru, .bool prx, .bool plg, .bool pdy] 34))
        have n1_ : ∀ g o, A1 = some ⟨g, o, none⟩ → g ≠ b := fun g o e => by have := l1 g (by rw [e]; simp [Value.ownBlock]); have := g2.hm.ws.lt; omega
        have m1_ : ∀ g o, A1 = some ⟨g, o, none⟩ → g < v1.heap.size := fun g o e => r1.lt g (by rw [e]; simp [Value.ownBlock])
        have l1_ : ∀ g o, A1 = some ⟨g, o, none⟩ → (Array.size (World.heap w2)) ≤ g := fun g o e => l1 g (by rw [e]; simp [Value.ownBlock])
        have z1_ : (Array.size (World.heap w2)) ≤ v1.heap.size := k1.size
        clear hca g2 hE2 r1 l1 k1 x1
        obtain ⟨q0, q1, q2, q3, q4, q5, q6, _, _, _, _, _, _, _⟩ := blk7 b1_
        have hAll1 := GuAll_at q S p L16 hh b 16 W _ gg1
        simp only [L16_len, Nat.reduceMul] at hAll1
        go_wp2_with fail
        refine hAll1.mono ?_; rintro e u5 ⟨A5, k5_, rfl, k5, ho5, lo5⟩
        change OwnI u5 _ _ (.slice A5 128 k5_) _ at ho5
        obtain ⟨gb5, cc5, he5, _, _⟩ := ho5.pos_ (by rw [allG_len]; decide)
        injection he5 with he5 hx5 hy5; subst he5; clear hx5; subst hy5
        have lo5' : b < gb5 := by have := lo5 gb5 (by simp [Value.ownBlock]); have := gg1.hm.ws.lt; omega
        have c5 := cc1.trans k5 (by simp)
        have g5 := gg1.self k5
        have E5 := EE1.self k5
        have b1_ := b1_.chg_ k5 (by simp)
        have s1_ := s1_.self k5
        clear cc1 gg1 EE1 k5 hAll1 q0 q1 q2 q3 q4 q5 q6 lo5
        obtain ⟨q0, q1, q2, q3, q4, q5, q6, _, _, _, _, _, _, _⟩ := blk7 b1_
        have hMk := Mark_at q S p L16 hh b 16 W A1 c1 ⟨pats, pg, ⟨prw, pru, prx⟩, plg, pdy⟩ written _ g5 hwd s1_ (Nat.le_trans hle (by decide)) n1_
        rw [show allAts 16 L16 (⟨pats, pg, ⟨prw, pru, prx⟩, plg, pdy⟩ : Pa).ats = true from hall, show markP 16 L16 (⟨pats, pg, ⟨prw, pru, prx⟩, plg, pdy⟩ : Pa).ats written W = W3 from hmp] at hMk
        go_wp2_with fail
        refine hMk.mono ?_; rintro e u6 ⟨rfl, k6, g6⟩
        have b1a := b1_
        have b1_ := b1a.chg_ k6 (by rw [List.mem_singleton]; exact fun e => Blk.type_ne b1a (e ▸ g5.hm.ws) (by decide) rfl)
        have s1_ := s1_.chg k6 (fun g o e => by rw [List.mem_singleton]; exact n1_ g o e)
        have ho5 := ho5.chg k6 (by intro i hi hm; simp [Value.ownBlock] at hi hm; omega)
        have E6 := E5.chg k6 (by rw [List.mem_singleton]; omega)
        have c6 : Chg [] w u6 := c5.trans k6 (by intro i hi hm; rw [List.mem_singleton] at hm; omega)
        clear hMk g5 c5 E5 k6 b1a q0 q1 q2 q3 q4 q5 q6
        obtain ⟨q0, q1, q2, q3, q4, q5, q6, _, _, _, _, _, _, _⟩ := blk7 b1_
        have hMd := Marked_at q S p L16 hh b 16 W3 A1 c1 ⟨pats, pg, ⟨prw, pru, prx⟩, plg, pdy⟩ _ g6 hwd3 s1_ (Nat.le_trans hle (by decide))
        rw [show usedAts 16 W3 L16 (⟨pats, pg, ⟨prw, pru, prx⟩, plg, pdy⟩ : Pa).ats = true from hua] at hMd
        go_wp2_with fail
        refine hMd.mono ?_; rintro e u7 ⟨rfl, k7⟩
        have b1_ := b1_.chg_ k7 (by simp)
        have s1_ := s1_.self k7
        have ho5 := ho5.chg k7 (by simp)
        have E7 := E6.self k7
        have c7 := c6.trans k7 (by simp)
        have g7 := g6.self k7
        clear hMd g6 c6 E6 k7 q0 q1 q2 q3 q4 q5 q6
        have hAll2 := GuAll_at q S p L16 hh b 16 W3 _ g7
        simp only [L16_len, Nat.reduceMul] at hAll2
        go_wp2_with fail
        refine hAll2.mono ?_; rintro e u8 ⟨A8, k8_, rfl, k8, ho8, lo8⟩
        change OwnI u8 _ _ (.slice A8 128 k8_) _ at ho8
        obtain ⟨gb8, cc8, he8, _, _⟩ := ho8.pos_ (by rw [allG_len]; decide)
        injection he8 with he8 hx8 hy8; subst he8; clear hx8; subst hy8
        have c8 := c7.trans k8 (by simp)
        have g8 := g7.self k8
        have E8 := E7.self k8
        have b1_ := b1_.chg_ k8 (by simp)
        have s1_ := s1_.self k8
        have ho5 := ho5.chg k8 (by simp)
        clear c7 g7 E7 k8 hAll2 lo8 hall hua hmp
        go_wp2_with fail
        go_loopw [22] (fun i w' => ∃ k : Nat, k ≤ 128 ∧ i = .int .i64 k ∧ Chg [] u8 w') (fun i _ => 128 - (intOf i).toNat)
        case atStart => exact ⟨0, by omega, rfl, Chg.refl [] u8⟩
        case round =>
          obtain ⟨k, hk, rfl, hc⟩ := hrel
          have b1_ := b1_.chg_ hc (by simp)
          have s1_ := s1_.self hc
          have ho5 := ho5.chg hc (by simp)
          have ho8 := ho8.chg hc (by simp)
          by_cases hlt : k < 128
          · obtain ⟨wa, wb, la, lb, ea, eb, hmk, hmine⟩ := hmw hlt
            have d5 := ho5.cell k (by rw [allG_len, L16_len]; omega)
            have d8 := ho8.cell k (by rw [allG_len, L16_len]; omega)
            rw [ea] at d5
            rw [eb] at d8
            clear ea eb
            have q0 := b1_.cell 0
            simp only [List.getElem?_toArray, List.getElem?_cons_zero] at q0
            go_wp2_with fail
            go_loopw [23, 24] (fun mi j w' => ∃ z : Nat, z ≤ pats.length ∧ j = .int .i64 z ∧ Chg [] wr w' ∧ mi = .bool ((pats.take z).any (fun x => 8 * x.1 + x.2 == (k : Int)))) (fun _ j _ => pats.length - (intOf j).toNat)
            case atStart => exact ⟨0, by omega, rfl, Chg.refl [] wr, rfl⟩
            case round =>
              obtain ⟨z, hz, rfl, hc2, rfl⟩ := hrel
              have Q0 := (hc2.cell (World.block_lt_of_cell? _ _ q0) (by simp)).trans q0
              by_cases hzl : z < pats.length
              · obtain ⟨ab, off, rfl, _, hx, y0, y1⟩ := (s1_.self hc2).get (k := z) hzl
                have hb' := hbd z hzl
                have hany : (pats.take (z + 1)).any (fun x => 8 * x.1 + x.2 == (k : Int)) = ((pats.take z).any (fun x => 8 * x.1 + x.2 == (k : Int)) || (8 * (pats.getD z (0, 0)).1 + (pats.getD z (0, 0)).2 == (k : Int))) := by
                  rw [List.take_succ_eq_append_getElem hzl, List.any_append]
                  simp [List.getD_eq_getElem?_getD, List.getElem?_eq_getElem hzl]
                generalize (pats.take z).any (fun x => 8 * x.1 + x.2 == (k : Int)) = mi at *
                have HANY := Lib.hid hany
                clear hany
                try simp only at y0 y1
                generalize pats.getD z (0, 0) = xx at *
                obtain ⟨xg, xi⟩ := xx
                try simp only at y0
                try simp only at y1
                try simp only at hb'
                generalize hte : (8 * xg + xi == (k : Int)) = te at *
                have K0 := fun nq : Cls wr => nq.cell Q0
                have K1 := fun nq : Cls wr => nq.cell y0
                have K2 := fun nq : Cls wr => nq.cell y1
                cases mi
                all_goals
                  go_wp2_with fail
                  refine wp_region_cls (by kernel_rfl) (by kernel_rfl) ?_
                  repeat (go_big_quiet_step (fail "no call"))
                  refine wpQuiet_nil ?_
                  rintro _ ⟨nq, rfl⟩
                  go_wp2_with fail
                  go_roundw
                  case rel => exact ⟨z + 1, by omega, by go_num, hc2.trans nq.ok (by simp), by rw [HANY.out, ← hte]; simp⟩
                  case measure => simp [intOf]; omega
              · obtain rfl : z = pats.length := by omega
                rw [List.take_length]
                have D5 := (hc2.cell (World.block_lt_of_cell? _ _ d5) (by simp)).trans d5
                have D8 := (hc2.cell (World.block_lt_of_cell? _ _ d8) (by simp)).trans d8
                generalize hany : pats.any (fun x => 8 * x.1 + x.2 == (k : Int)) = mi at *
                obtain ⟨hm1, hm2⟩ := mk_bits hmk
                have a1 : bits .andNot .u64 (wb : Int) 96 = ((wb &&& (18446744073709551615 - 96) : Nat) : Int) := u64_andNot_nat wb 96 lb (by decide)
                have a2 : bits .andNot .u64 (wa : Int) 96 = ((wa &&& (18446744073709551615 - 96) : Nat) : Int) := u64_andNot_nat wa 96 la (by decide)
                have a3 : bits .and .u64 (wb : Int) (wa : Int) = (wa : Int) := by rw [u64_and_nat wb wa lb la, hm2]
                rw [hm1] at a1
                generalize ((wa &&& (18446744073709551615 - 96) : Nat) : Int) = xx at *
                have t1 : (xx != xx) = false := by simp
                have t2 : ((wa : Int) != (wa : Int)) = false := by simp
                have hcc := hc.trans hc2 (by simp)
                have K5 := fun nq : Cls wr => nq.cell D5
                have K8 := fun nq : Cls wr => nq.cell D8
                have hmi : (wb : Int) ≠ (wa : Int) → mi = true := fun hne => by
                  cases mi with
                  | true => rfl
                  | false => exact absurd (hmine rfl) (fun h => hne (by rw [h]))
                clear hmine hm1 hm2 hmk d5 d8 D5 D8 q0 hc hc2 hmw
                generalize (wa : Int) = za at *
                by_cases hab : (wb : Int) = za
                · clear hmi
                  generalize (wb : Int) = zb at *
                  subst hab
                  go_wp2_with fail
                  refine wp_region_cls (by kernel_rfl) (by kernel_rfl) ?_
                  repeat (go_big_quiet_step (fail "no call"))
                  refine wpQuiet_nil ?_
                  rintro _ ⟨nq, rfl⟩
                  go_wp2_with fail
                  go_roundw
                  case rel => exact ⟨k + 1, by omega, by go_num, hcc.trans nq.ok (by simp)⟩
                  case measure => simp [intOf]; omega
                · have t3 : ((wb : Int) != za) = true := by simpa using hab
                  have hmi := hmi hab
                  subst hmi
                  clear hab
                  generalize (wb : Int) = zb at *
                  go_wp2_with fail
                  refine wp_region_cls (by kernel_rfl) (by kernel_rfl) ?_
                  repeat (go_big_quiet_step (fail "no call"))
                  refine wpQuiet_nil ?_
                  rintro _ ⟨nq, rfl⟩
                  go_wp2_with fail
                  go_roundw
                  case rel => exact ⟨k + 1, by omega, by go_num, hcc.trans nq.ok (by simp)⟩
                  case measure => simp [intOf]; omega
          · obtain rfl : k = 128 := by omega
            have cr := c8.trans hc (by simp)
            have gr := g8.self hc
            have Er := E8.self hc
            clear hc ho5 ho8 hmw c8 g8 E8
            have hlt1 := b1_.lt
            go_wp2_with fail
            refine (Walk_is q S p L16 hh b 16 W3 rn pn kn user ⟨pats, pg, ⟨prw, pru, prx⟩, plg, d2⟩ 0 0 _ Er gr hwd3 hw2).mono ?_; rintro e v2 ⟨A2, c2, rfl, r2, l2, k2⟩
            rw [show pathV A2 c2 ⟨pats, pg, ⟨prw, pru, prx⟩, plg, d2⟩ = #[.slice A2 pats.length c2, .int .i64 pg, .bool prw, .bool pru, .bool prx, .bool plg, .bool d2] from rfl]
            have x2 : Chg [] wr (v2.alloc (.cells #[.slice A2 pats.length c2, .int .i64 pg, .bool prw, .bool pru, .bool prx, .bool plg, .bool d2] 34)) := k2.alloc _
            have cc2 := cr.trans x2 (by simp)
            have gg2 := gr.self x2
            have EE2 := Er.self x2
            have b2_ := Blk.new v2 34 #[.slice A2 pats.length c2, .int .i64 pg, .bool prw, .bool pru, .bool prx, .bool plg, .bool d2]
            have s2_ := (OwnA.sla r2).self ((Chg.refl [] v2).alloc (.cells #[.slice A2 pats.length c2, .int .i64 pg, .bool prw, .bool pru, .bool prx, .bool plg, .bool d2] 34))
            have n2_ : ∀ g o, A2 = some ⟨g, o, none⟩ → g ≠ b := fun g o e => by have := l2 g (by rw [e]; simp [Value.ownBlock]); have := gr.hm.ws.lt; omega
            have m2_ : ∀ g o, A2 = some ⟨g, o, none⟩ → g < v2.heap.size := fun g o e => r2.lt g (by rw [e]; simp [Value.ownBlock])
            have l2_ : ∀ g o, A2 = some ⟨g, o, none⟩ → (Array.size (World.heap wr)) ≤ g := fun g o e => l2 g (by rw [e]; simp [Value.ownBlock])
            have z2_ : (Array.size (World.heap wr)) ≤ v2.heap.size := k2.size
            have b1_ := b1_.chg_ x2 (by simp); have s1_ := s1_.self x2
            clear cr gr Er r2 l2 k2 x2
            obtain ⟨q0, q1, q2, q3, q4, q5, q6, _, _, _, _, _, _, _⟩ := blk7 b1_
            obtain ⟨r0, r1, r2, r3, r4, r5, r6, _, _, _, _, _, _, _⟩ := blk7 b2_
            have hne : v2.heap.size ≠ v1.heap.size := by omega
            have ch := (Chg.refl [v1.heap.size] (v2.alloc (.cells #[.slice A2 pats.length c2, .int .i64 pg, .bool prw, .bool pru, .bool prx, .bool plg, .bool d2] 34))).setCell (p := ⟨v1.heap.size, 6, none⟩) (by simp) (.bool d2)
            have b1n := b1_.set_ 6 (.bool d2)
            simp only [List.setIfInBounds_toArray, List.set_cons_zero, List.set_cons_succ] at b1n
            have b2n := b2_.chg_ ch (by simpa using hne)
            have s1n := s1_.chg ch (fun g o e => by have := m1_ g o e; simp; omega)
            have s2n := s2_.chg ch (fun g o e => by have := l2_ g o e; simp; omega)
            have cn := cc2.trans ch (by intro i hi hm; simp at hm; omega)
            obtain ⟨f0_, f1_, f2_, f3_, f4_, f5_, f6_, _, _, _, _, _, _, _⟩ := blk7 b1n
            obtain ⟨h0_, h1_, h2_, h3_, h4_, h5_, h6_, _, _, _, _, _, _, _⟩ := blk7 b2n
            have hS := Same_eq A1 A2 c1 c2 ⟨pats, pg, ⟨prw, pru, prx⟩, plg, d2⟩ _ s1n s2n (Nat.le_trans hle (by decide))
            have hT := fun w0 (hc0 : Chg [] _ w0) => twice_at A1 pats.length c1 pats w0 (s1n.self hc0) (Nat.le_trans hle (by decide))
            clear s1_ s2_ b1_ b2_ cc2 ch s1n s2n
            cases pdy
            case true =>
              cases d2
              case true =>
                clear hdirty hT
                go_wp2_with fail
                refine hS.mono ?_; rintro e y1 ⟨rfl, t1⟩
                have b1y := b1n.chg_ t1 (by simp); have b2y := b2n.chg_ t1 (by simp)
                clear f0_ f1_ f2_ f3_ f4_ f5_ f6_ h0_ h1_ h2_ h3_ h4_ h5_ h6_
                obtain ⟨f0_, f1_, f2_, f3_, f4_, f5_, f6_, _, _, _, _, _, _, _⟩ := blk7 b1y
                obtain ⟨h0_, h1_, h2_, h3_, h4_, h5_, h6_, _, _, _, _, _, _, _⟩ := blk7 b2y
                go_wp2_with fail
                go_ret
                exact ⟨rfl, cn.trans t1 (by simp)⟩
              case false =>
                have hnd : (!decide pats.Nodup) = true := by rcases hdirty with h | h; · cases h
                                                             · simp [h]
                simp only [hnd] at hT
                clear hdirty hnd
                go_wp2_with fail
                refine hS.mono ?_; rintro e y1 ⟨rfl, t1⟩
                have b1y := b1n.chg_ t1 (by simp); have b2y := b2n.chg_ t1 (by simp)
                clear f0_ f1_ f2_ f3_ f4_ f5_ f6_ h0_ h1_ h2_ h3_ h4_ h5_ h6_
                obtain ⟨f0_, f1_, f2_, f3_, f4_, f5_, f6_, _, _, _, _, _, _, _⟩ := blk7 b1y
                obtain ⟨h0_, h1_, h2_, h3_, h4_, h5_, h6_, _, _, _, _, _, _, _⟩ := blk7 b2y
                go_wp2_with fail
                refine (hT _ t1).mono ?_; rintro e y2 ⟨rfl, t2⟩
                go_wp2_with fail
                go_ret
                exact ⟨rfl, (cn.trans t1 (by simp)).trans t2 (by simp)⟩
            case false =>
              cases written
              case true =>
                cases d2
                case true =>
                  clear hdirty hT
                  go_wp2_with fail
                  refine hS.mono ?_; rintro e y1 ⟨rfl, t1⟩
                  have b1y := b1n.chg_ t1 (by simp); have b2y := b2n.chg_ t1 (by simp)
                  clear f0_ f1_ f2_ f3_ f4_ f5_ f6_ h0_ h1_ h2_ h3_ h4_ h5_ h6_
                  obtain ⟨f0_, f1_, f2_, f3_, f4_, f5_, f6_, _, _, _, _, _, _, _⟩ := blk7 b1y
                  obtain ⟨h0_, h1_, h2_, h3_, h4_, h5_, h6_, _, _, _, _, _, _, _⟩ := blk7 b2y
                  go_wp2_with fail
                  go_ret
                  exact ⟨rfl, cn.trans t1 (by simp)⟩
                case false =>
                  have hnd : (!decide pats.Nodup) = true := by rcases hdirty with h | h; · cases h
                                                               · simp [h]
                  simp only [hnd] at hT
                  clear hdirty hnd
                  go_wp2_with fail
                  refine hS.mono ?_; rintro e y1 ⟨rfl, t1⟩
                  have b1y := b1n.chg_ t1 (by simp); have b2y := b2n.chg_ t1 (by simp)
                  clear f0_ f1_ f2_ f3_ f4_ f5_ f6_ h0_ h1_ h2_ h3_ h4_ h5_ h6_
                  obtain ⟨f0_, f1_, f2_, f3_, f4_, f5_, f6_, _, _, _, _, _, _, _⟩ := blk7 b1y
                  obtain ⟨h0_, h1_, h2_, h3_, h4_, h5_, h6_, _, _, _, _, _, _, _⟩ := blk7 b2y
                  go_wp2_with fail
                  refine (hT _ t1).mono ?_; rintro e y2 ⟨rfl, t2⟩
                  go_wp2_with fail
                  go_ret
                  exact ⟨rfl, (cn.trans t1 (by simp)).trans t2 (by simp)⟩
              case false =>
                cases d2
                case false =>
                  clear hdirty hT
                  go_wp2_with fail
                  refine hS.mono ?_; rintro e y1 ⟨rfl, t1⟩
                  have b1y := b1n.chg_ t1 (by simp); have b2y := b2n.chg_ t1 (by simp)
                  clear f0_ f1_ f2_ f3_ f4_ f5_ f6_ h0_ h1_ h2_ h3_ h4_ h5_ h6_
                  obtain ⟨f0_, f1_, f2_, f3_, f4_, f5_, f6_, _, _, _, _, _, _, _⟩ := blk7 b1y
                  obtain ⟨h0_, h1_, h2_, h3_, h4_, h5_, h6_, _, _, _, _, _, _, _⟩ := blk7 b2y
                  go_wp2_with fail
                  go_ret
                  exact ⟨rfl, cn.trans t1 (by simp)⟩
                case true =>
                  have hnd : (!decide pats.Nodup) = true := by rcases hdirty with h | h; · cases h
                                                               · simp [h]
                  simp only [hnd] at hT
                  clear hdirty hnd
                  go_wp2_with fail
                  refine hS.mono ?_; rintro e y1 ⟨rfl, t1⟩
                  have b1y := b1n.chg_ t1 (by simp); have b2y := b2n.chg_ t1 (by simp)
                  clear f0_ f1_ f2_ f3_ f4_ f5_ f6_ h0_ h1_ h2_ h3_ h4_ h5_ h6_
                  obtain ⟨f0_, f1_, f2_, f3_, f4_, f5_, f6_, _, _, _, _, _, _, _⟩ := blk7 b1y
                  obtain ⟨h0_, h1_, h2_, h3_, h4_, h5_, h6_, _, _, _, _, _, _, _⟩ := blk7 b2y
                  go_wp2_with fail
                  refine (hT _ t1).mono ?_; rintro e y2 ⟨rfl, t2⟩
                  go_wp2_with fail
                  go_ret
                  exact ⟨rfl, (cn.trans t1 (by simp)).trans t2 (by simp)⟩
      · obtain ⟨rfl, _⟩ := walk_zero hr hz
        go_wp2_with fail
        refine (Walk_is q S p L16 hh b 16 W rn pn kn user Pa.zero how code _ hE2 g2 hwd hr).mono ?_; rintro e v1 ⟨A1, c1, rfl, r1, l1, k1⟩
        rw [show pathV A1 c1 Pa.zero = #[.slice A1 0 c1, .int .i64 0, .bool false, .bool false, .bool false, .bool false, .bool false] from rfl]
        have x1 : Chg [] w2 (v1.alloc (.cells #[.slice A1 0 c1, .int .i64 0, .bool false, .bool false, .bool false, .bool false, .bool false] 34)) := k1.alloc _
        have cc1 := hca.trans x1 (by simp)
        have gg1 := g2.self x1
        have EE1 := hE2.self x1
        have b1_ := Blk.new v1 34 #[.slice A1 0 c1, .int .i64 0, .bool false, .bool false, .bool false, .bool false, .bool false]
        have s1_ := (OwnA.sla r1).self ((Chg.refl [] v1).alloc (.cells #[.slice A1 0 c1, .int .i64 0, .bool false, .bool false, .bool false, .bool false, .bool false] 34))
        have n1_ : ∀ g o, A1 = some ⟨g, o, none⟩ → g ≠ b := fun g o e => by have := l1 g (by rw [e]; simp [Value.ownBlock]); have := g2.hm.ws.lt; omega
        clear hca g2 hE2 r1 l1 k1 x1
        obtain ⟨q0, q1, q2, q3, q4, q5, q6, _, _, _, _, _, _, _⟩ := blk7 b1_
        go_wp2_with fail
        go_ret
        exact ⟨rfl, cc1⟩

end Go.Proofs.YtdfmlodmaipnkaaDoor
