/-
  WalkR2, WalkR3, LawWalkTells in one text.
-/
import Derived.Test.YtdfmlodmaipnkaaGreatDoorWalkG
import Derived.Test.YtdfmlodmaipnkaaGreatDoorGuestR
import Derived.Test.YtdfmlodmaipnkaaGreatDoorRefW
import Derived.Test.YtdfmlodmaipnkaaGreatDoorWalkR1
import Derived.Test.YtdfmlodmaipnkaaGreatDoorWalkHead
import Derived.Test.YtdfmlodmaipnkaaGreatDoorWalkK
import Derived.Test.YtdfmlodmaipnkaaGreatDoorRefA
namespace Go.Proofs.YtdfmlodmaipnkaaGreatDoor
open Go.RowKit Go.Maps

theorem rgu_get (q : Nat) (S : List Nat) (p : Nat) (L : List Int) (h b n : Nat) (W : List Int) (f i : Int) (x : Int) (t : Bool) (w : World) (g : RGuIn w q S p L h b n W) (hx : getG n W L f i = x) (ht : hasG n L f i = t) :
    Calls Tryz.prog 30 #[.pointer (some ⟨q, 0, none⟩), .int .i64 f, .int .i64 i] w fun e w' => e = .returned (.tuple #[.int .u64 x, .bool t]) ∧ w = w' := hx ▸ ht ▸ RGuGet_at q S p L h b n W f i w g
theorem rgu_set (q : Nat) (S : List Nat) (p : Nat) (L : List Int) (h b n : Nat) (W : List Int) (f i v : Int) (t : Bool) (W' : List Int) (w : World) (g : RGuIn w q S p L h b n W) (ht : hasG n L f i = t) (hW : setG n W L f i v = W') :
    Calls Tryz.prog 25 #[.pointer (some ⟨q, 0, none⟩), .int .i64 f, .int .i64 i, .int .u64 v] w fun e w' => e = .returned (.bool t) ∧ Chg [b] w w' ∧ RGuIn w' q S p L h b n W' := ht ▸ hW ▸ RGuSet_at q S p L h b n W f i v w g
theorem usedT_eq (v : Nat) (t : Bool) : usedT v t = usedN v t := rfl

set_option maxRecDepth 100000 in
set_option maxHeartbeats 8000000 in
theorem RMarked_at (q : Nat) (S : List Nat) (p : Nat) (L : List Int) (h b n : Nat) (W : List Int) (A : Option Addr) (c : Nat) (P : Pa) (w : World) (gu : RGuIn w q S p L h b n W) (hW : WdW W) (hs : SlA w A P.ats.length P.ats) (hN : P.ats.length ≤ 9223372036854775807) :
    Calls Tryz.prog 11 #[.pointer (some ⟨q, 0, none⟩), .agg (pathV A c P)] w fun e w' => e = .returned (.bool (usedAts n W L P.ats)) ∧ Chg [] w w' := by
  obtain ⟨ats, pg, ⟨rw, ru, rx⟩, lg, dy⟩ := P
  simp only [pathV, usedAts] at *
  have hc0 := (Chg.refl [] w).alloc (.cells #[.slice A ats.length c, .int .i64 pg, .bool rw, .bool ru, .bool rx, .bool lg, .bool dy] 32)
  have hP0 := Blk.new w 32 #[.slice A ats.length c, .int .i64 pg, .bool rw, .bool ru, .bool rx, .bool lg, .bool dy]
  have gu0 := gu.self hc0
  have hs0 := hs.self hc0
  obtain ⟨p0_, p1_, p2_, p3_, p4_, p5_, p6_, _, _, _, _, _, _, _⟩ := blk7 hP0
  go_enter Tryz.func11, Tryz.ntmps11
  go_wp2_with fail
  generalize w.alloc (.cells #[.slice A ats.length c, .int .i64 pg, .bool rw, .bool ru, .bool rx, .bool lg, .bool dy] 32) = w0 at *
  generalize w.heap.size = pb at *
  clear p0_ p1_ p2_ p3_ p4_ p5_ p6_
  go_loopw [5] (fun i w' => ∃ k : Nat, k ≤ ats.length ∧ i = .int .i64 k ∧ Chg [] w0 w' ∧ (ats.take k).all (fun a => hasG n L a.1 a.2 && (getE (getG n W L a.1 a.2).toNat).a) = true) (fun i _ => ats.length - (intOf i).toNat)
  case atStart => exact ⟨0, by omega, rfl, Chg.refl [] w0, rfl⟩
  case round =>
    obtain ⟨k, hk, rfl, hc, hall⟩ := hrel
    have hPk := hP0.chg_ hc (by simp)
    have p0_ := hPk.cell 0
    simp only [List.getElem?_toArray, List.getElem?_cons_zero] at p0_
    have hcw := hc0.trans hc (by simp)
    by_cases hlt : k < ats.length
    · obtain ⟨ab, off, rfl, hb, hx, c0, c1⟩ := (hs0.self hc).get hlt
      have guk := gu0.self hc
      have hel : ((hasG n L (ats.getD k (0, 0)).1 (ats.getD k (0, 0)).2 && (getE (getG n W L (ats.getD k (0, 0)).1 (ats.getD k (0, 0)).2).toNat).a) = true → (ats.take (k + 1)).all (fun a => hasG n L a.1 a.2 && (getE (getG n W L a.1 a.2).toNat).a) = true) ∧ ((hasG n L (ats.getD k (0, 0)).1 (ats.getD k (0, 0)).2 && (getE (getG n W L (ats.getD k (0, 0)).1 (ats.getD k (0, 0)).2).toNat).a) = false → ats.all (fun a => hasG n L a.1 a.2 && (getE (getG n W L a.1 a.2).toNat).a) = false) := by
        cases ho : (hasG n L (ats.getD k (0, 0)).1 (ats.getD k (0, 0)).2 && (getE (getG n W L (ats.getD k (0, 0)).1 (ats.getD k (0, 0)).2).toNat).a) with
        | true =>
          refine ⟨fun _ => ?_, fun h => by cases h⟩
          have hkl := (List.getElem?_eq_some_iff.1 hx).1
          rw [List.take_succ_eq_append_getElem hkl, (List.getElem?_eq_some_iff.1 hx).2, List.all_append, hall]
          simp only [List.all_cons, List.all_nil, Bool.and_true, Bool.true_and]
          exact ho
        | false =>
          refine ⟨(fun h => by cases h), fun _ => ?_⟩
          rw [List.all_eq_false]
          exact ⟨_, List.mem_of_getElem? hx, by rw [ho]; simp⟩
      generalize hgi : ats.getD k (0, 0) = gi at *
      obtain ⟨g, i⟩ := gi
      simp only at c0 c1 hel hx
      clear hgi hx hall
      by_cases hh : hasG n L g i = true
      · obtain ⟨_, r2, r3⟩ := rd_word hW hh
        rw [hh] at hel
        have hcs : (getE (getG n W L g i).toNat).cs = #[.bool (getE (getG n W L g i).toNat).p, .bool (getE (getG n W L g i).toNat).w, .bool (getE (getG n W L g i).toNat).u, .bool (getE (getG n W L g i).toNat).a, .bool (getE (getG n W L g i).toNat).d, .bool (getE (getG n W L g i).toNat).s, .bool (getE (getG n W L g i).toNat).n, .bool (getE (getG n W L g i).toNat).bad, .int .i64 (getE (getG n W L g i).toNat).f] := rfl
        have hGet := fun w0 : World => RGet_any (getG n W L g i).toNat w0 r3
        rw [hcs] at hGet
        clear hcs
        generalize (getE (getG n W L g i).toNat).p = e0 at *
        generalize (getE (getG n W L g i).toNat).w = e1 at *
        generalize (getE (getG n W L g i).toNat).u = e2 at *
        generalize (getE (getG n W L g i).toNat).a = e3 at *
        generalize (getE (getG n W L g i).toNat).d = e4 at *
        generalize (getE (getG n W L g i).toNat).s = e5 at *
        generalize (getE (getG n W L g i).toNat).n = e6 at *
        generalize (getE (getG n W L g i).toNat).bad = e7 at *
        generalize (getE (getG n W L g i).toNat).f = e8 at *
        have HEL := Lib.hid hel
        clear hel
        generalize hv : (getG n W L g i).toNat = v at *
        have hfd : ∀ w0 : World, (Instr.field 77 (.agg #[.bool e0, .bool e1, .bool e2, .bool e3, .bool e4, .bool e5, .bool e6, .bool e7, .int .i64 e8]) 3).run Tryz.prog w0 = .ok (.bool e3) w0 := fun w0 => by kernel_rfl
        have HG := fun m : Cls wr => (rgu_get q S p L h b n W g i v true m.val (guk.self m.ok) r2 hh).mono fun e w' (hh : _ ∧ m.val = w') => (⟨hh.1, hh.2 ▸ Chg.refl [] m.val⟩ : _ ∧ Chg [] m.val w')
        have K0 := fun nq : Cls wr => nq.cell p0_
        have K1 := fun nq : Cls wr => nq.cell c0
        have K2 := fun nq : Cls wr => nq.cell c1
        go_wp2_with fail
        refine wp_region_cls (by kernel_rfl) (by kernel_rfl) ?_
        repeat (go_big_quiet_step ((go_at_call 30; with_reducible exact Calls.cls (HG _))))
        refine wpQuiet_nil ?_
        rintro _ ⟨nq, rfl⟩
        clear HG r2 hh hv K0 K1 K2
        cases e3
        case true =>
          go_wp2_with fail
          refine (hGet _).mono ?_; rintro e w3 ⟨rfl, k3⟩
          go_wp2_with fail
          go_roundw
          case rel => exact ⟨k + 1, by omega, by go_num, (hc.trans nq.ok (by simp)).trans k3 (by simp), HEL.out.1 (by simp)⟩
          case measure => simp [intOf]; omega
        case false =>
          go_wp2_with fail
          refine (hGet _).mono ?_; rintro e w3 ⟨rfl, k3⟩
          go_wp2_with fail
          go_ret
          exact ⟨ret_bool (HEL.out.2 (by simp)).symm, (hcw.trans nq.ok (by simp)).trans k3 (by simp)⟩
      · have hh' : hasG n L g i = false := by simpa using hh
        rw [hh'] at hel
        have HEL : Hid (ats.all (fun a => hasG n L a.1 a.2 && (getE (getG n W L a.1 a.2).toNat).a) = false) := Lib.hid (hel.2 (by simp))
        clear hel
        have HG := fun m : Cls wr => (rgu_get q S p L h b n W g i _ false m.val (guk.self m.ok) rfl hh').mono fun e w' (hh : _ ∧ m.val = w') => (⟨hh.1, hh.2 ▸ Chg.refl [] m.val⟩ : _ ∧ Chg [] m.val w')
        have K0 := fun nq : Cls wr => nq.cell p0_
        have K1 := fun nq : Cls wr => nq.cell c0
        have K2 := fun nq : Cls wr => nq.cell c1
        go_wp2_with fail
        refine wp_region_cls (by kernel_rfl) (by kernel_rfl) ?_
        repeat (go_big_quiet_step ((go_at_call 30; with_reducible exact Calls.cls (HG _))))
        refine wpQuiet_nil ?_
        rintro _ ⟨nq, rfl⟩
        clear HG hh hh'
        go_wp2_with fail
        go_ret
        exact ⟨ret_bool HEL.out.symm, hcw.trans nq.ok (by simp)⟩
    · obtain rfl : k = ats.length := by omega
      have HALL : Hid (ats.all (fun a => hasG n L a.1 a.2 && (getE (getG n W L a.1 a.2).toNat).a) = true) := Lib.hid (by rw [List.take_length] at hall; exact hall)
      clear hall
      go_wp2_with fail
      go_ret
      exact ⟨ret_bool HALL.out.symm, hcw⟩

set_option maxRecDepth 100000 in
set_option maxHeartbeats 16000000 in
theorem RMark_at (q : Nat) (S : List Nat) (p : Nat) (L : List Int) (h b n : Nat) (W : List Int) (A : Option Addr) (c : Nat) (P : Pa) (written : Bool) (w : World) (gu : RGuIn w q S p L h b n W) (hW : WdW W) (hs : SlA w A P.ats.length P.ats) (hN : P.ats.length ≤ 9223372036854775807) (hap : ∀ g o, A = some ⟨g, o, none⟩ → g ≠ b) :
    Calls Tryz.prog 13 #[.pointer (some ⟨q, 0, none⟩), .agg (pathV A c P), .bool written] w fun e w' => e = .returned (.bool (allAts n L P.ats)) ∧ Chg [b] w w' ∧ RGuIn w' q S p L h b n (markP n L P.ats written W) := by
  obtain ⟨ats, pg, ⟨rw, ru, rx⟩, lg, dy⟩ := P
  simp only [pathV] at *
  have hc0 := (Chg.refl [] w).alloc (.cells #[.slice A ats.length c, .int .i64 pg, .bool rw, .bool ru, .bool rx, .bool lg, .bool dy] 32)
  have hP0 := Blk.new w 32 #[.slice A ats.length c, .int .i64 pg, .bool rw, .bool ru, .bool rx, .bool lg, .bool dy]
  have gu0 := gu.self hc0
  have hs0 := hs.self hc0
  have hbw := gu.hm.ws.lt
  have HMP : Hid (markP n L ats written W = if allAts n L ats then markTo n L ats written W ats.length else W) := Lib.hid rfl
  unfold allAts at HMP ⊢
  obtain ⟨p0_, p1_, p2_, p3_, p4_, p5_, p6_, _, _, _, _, _, _, _⟩ := blk7 hP0
  go_enter Tryz.func13, Tryz.ntmps13
  go_wp2_with fail
  generalize w.alloc (.cells #[.slice A ats.length c, .int .i64 pg, .bool rw, .bool ru, .bool rx, .bool lg, .bool dy] 32) = w0 at *
  generalize hpb : w.heap.size = pb at *
  clear p0_ p1_ p2_ p3_ p4_ p5_ p6_ gu hs
  go_loopw [7] (fun i w' => ∃ k : Nat, k ≤ ats.length ∧ i = .int .i64 k ∧ Chg [] w0 w' ∧ (ats.take k).all (fun a => hasG n L a.1 a.2) = true) (fun i _ => ats.length - (intOf i).toNat)
  case atStart => exact ⟨0, by omega, rfl, Chg.refl [] w0, rfl⟩
  case round =>
    obtain ⟨k, hk, rfl, hc, hall⟩ := hrel
    have hPk := hP0.chg_ hc (by simp)
    have p0_ := hPk.cell 0
    simp only [List.getElem?_toArray, List.getElem?_cons_zero] at p0_
    have hcw := hc0.trans hc (by simp)
    by_cases hlt : k < ats.length
    · obtain ⟨ab, off, rfl, hb, hx, c0, c1⟩ := (hs0.self hc).get hlt
      have guk := gu0.self hc
      have hel : ((hasG n L (ats.getD k (0, 0)).1 (ats.getD k (0, 0)).2) = true → (ats.take (k + 1)).all (fun a => hasG n L a.1 a.2) = true) ∧ ((hasG n L (ats.getD k (0, 0)).1 (ats.getD k (0, 0)).2) = false → ats.all (fun a => hasG n L a.1 a.2) = false) := by
        cases ho : (hasG n L (ats.getD k (0, 0)).1 (ats.getD k (0, 0)).2) with
        | true =>
          refine ⟨fun _ => ?_, fun h => by cases h⟩
          have hkl := (List.getElem?_eq_some_iff.1 hx).1
          rw [List.take_succ_eq_append_getElem hkl, (List.getElem?_eq_some_iff.1 hx).2, List.all_append, hall]
          simp only [List.all_cons, List.all_nil, Bool.and_true, Bool.true_and]
          exact ho
        | false =>
          refine ⟨(fun h => by cases h), fun _ => ?_⟩
          rw [List.all_eq_false]
          exact ⟨_, List.mem_of_getElem? hx, by rw [ho]; simp⟩
      generalize hgi : ats.getD k (0, 0) = gi at *
      obtain ⟨g, i⟩ := gi
      simp only at c0 c1 hel hx
      clear hgi hx hall
      by_cases hh : hasG n L g i = true
      · rw [hh] at hel
        have HEL := Lib.hid hel
        clear hel
        have HG := fun m : Cls wr => (rgu_get q S p L h b n W g i _ true m.val (guk.self m.ok) rfl hh).mono fun e w' (hh : _ ∧ m.val = w') => (⟨hh.1, hh.2 ▸ Chg.refl [] m.val⟩ : _ ∧ Chg [] m.val w')
        have K0 := fun nq : Cls wr => nq.cell p0_
        have K1 := fun nq : Cls wr => nq.cell c0
        have K2 := fun nq : Cls wr => nq.cell c1
        go_wp2_with fail
        refine wp_region_cls (by kernel_rfl) (by kernel_rfl) ?_
        repeat (go_big_quiet_step ((go_at_call 30; with_reducible exact Calls.cls (HG _))))
        refine wpQuiet_nil ?_
        rintro _ ⟨nq, rfl⟩
        clear HG hh K0 K1 K2
        go_wp2_with fail
        go_roundw
        case rel => exact ⟨k + 1, by omega, by go_num, hc.trans nq.ok (by simp), HEL.out.1 (by simp)⟩
        case measure => simp [intOf]; omega
      · have hh' : hasG n L g i = false := by simpa using hh
        rw [hh'] at hel
        have HEL : Hid (ats.all (fun a => hasG n L a.1 a.2) = false) := Lib.hid (hel.2 (by simp))
        clear hel
        have HG := fun m : Cls wr => (rgu_get q S p L h b n W g i _ false m.val (guk.self m.ok) rfl hh').mono fun e w' (hh : _ ∧ m.val = w') => (⟨hh.1, hh.2 ▸ Chg.refl [] m.val⟩ : _ ∧ Chg [] m.val w')
        have K0 := fun nq : Cls wr => nq.cell p0_
        have K1 := fun nq : Cls wr => nq.cell c0
        have K2 := fun nq : Cls wr => nq.cell c1
        go_wp2_with fail
        refine wp_region_cls (by kernel_rfl) (by kernel_rfl) ?_
        repeat (go_big_quiet_step ((go_at_call 30; with_reducible exact Calls.cls (HG _))))
        refine wpQuiet_nil ?_
        rintro _ ⟨nq, rfl⟩
        clear HG hh hh'
        go_wp2_with fail
        go_ret
        exact ⟨ret_bool HEL.out.symm, (hcw.trans nq.ok (by simp)).weak (by simp), by rw [HMP.out, if_neg (by rw [show ats.all (fun a => hasG n L a.1 a.2) = false from HEL.out]; decide)]; exact (gu0.self hc).self nq.ok⟩
    · obtain rfl : k = ats.length := by omega
      have HALL : Hid (allAts n L ats = true) := Lib.hid (by rw [List.take_length] at hall; exact hall)
      clear hall
      have gu1 := gu0.self hc
      have hs1 := hs0.self hc
      clear gu0 hs0 hP0
      go_wp2_with fail
      clear p0_
      go_loopw [10] (fun i w' => ∃ k : Nat, k ≤ ats.length ∧ i = .int .i64 k ∧ Chg [b] wr w' ∧ RGuIn w' q S p L h b n (markTo n L ats written W k)) (fun i _ => ats.length - (intOf i).toNat)
      case atStart => exact ⟨0, by omega, rfl, Chg.refl _ wr, gu1⟩
      case round =>
        obtain ⟨k, hk, rfl, hc2, guk⟩ := hrel
        clear gu1
        have hcw2 : Chg [b] w wr := (hcw.weak (T := [b]) (by simp)).trans hc2 (by intro i hi hm; exact hm)
        have hPk := hPk.chg_ hc2 (by simp; omega)
        have p0_ := hPk.cell 0
        simp only [List.getElem?_toArray, List.getElem?_cons_zero] at p0_
        by_cases hlt : k < ats.length
        · have hsk := hs1.chg hc2 (fun g o e => by have := hap g o e; simp; exact this)
          obtain ⟨ab, off, hAe, hb, hx, c0, c1⟩ := hsk.get hlt
          have hapb : ab ≠ b := hap _ _ hAe
          subst hAe
          have hWk := hW.mark_to n L ats written k
          have hh := allAts_get HALL.out hlt
          have HST : Hid (markTo n L ats written W (k + 1) = setG n (markTo n L ats written W k) L (ats.getD k (0, 0)).1 (ats.getD k (0, 0)).2 (usedN (getG n (markTo n L ats written W k) L (ats.getD k (0, 0)).1 (ats.getD k (0, 0)).2).toNat (written && decide (k + 1 = ats.length)))) := Lib.hid rfl
          generalize hgi : ats.getD k (0, 0) = gi at *
          obtain ⟨g, i⟩ := gi
          simp only at c0 c1 hx hh HST
          have HX := Lib.hid hx
          clear hgi hx
          generalize markTo n L ats written W k = Wk at *
          obtain ⟨_, r2, r3⟩ := rd_word hWk hh
          have hdec : decide ((k : Int) = (ats.length : Int) - 1) = decide (k + 1 = ats.length) := by rw [decide_eq_decide]; omega
          have hdec2 : ((k : Int) == (ats.length : Int) - 1) = decide (k + 1 = ats.length) := by rw [Bool.eq_iff_iff]; simp; omega
          generalize hv : (getG n Wk L g i).toNat = v at *
          generalize decide (k + 1 = ats.length) = tl at *
          have hwr64 : wrap64 ((ats.length : Int) - 1) = (ats.length : Int) - 1 := by unfold wrap64; omega
          have hwr65 : IntKind.i64.wrap ((ats.length : Int) - 1) = (ats.length : Int) - 1 := by rw [IntKind.wrap_i64]; omega
          have hUs := fun (t : Bool) (w0 : World) => RUsed_any v t w0 r3
          simp only [usedT_eq] at hUs
          have hbt := guk.hm.ws.lt
          have HG := fun m : Cls wr => (rgu_get q S p L h b n Wk g i v true m.val (guk.self m.ok) r2 hh).mono fun e w' (hh : _ ∧ m.val = w') => (⟨hh.1, hh.2 ▸ Chg.refl [] m.val⟩ : _ ∧ Chg [] m.val w')
          have K0 := fun nq : Cls wr => nq.cell p0_
          have K1 := fun nq : Cls wr => nq.cell c0
          have K2 := fun nq : Cls wr => nq.cell c1
          go_wp2_with fail
          refine wp_region_cls (by kernel_rfl) (by kernel_rfl) ?_
          repeat (go_big_quiet_step ((go_at_call 30; with_reducible exact Calls.cls (HG _))))
          refine wpQuiet_nil ?_
          rintro _ ⟨nq, rfl⟩
          clear HG r2 hv K0 K1 K2
          go_wp2_with fail
          have gua := guk.self nq.ok
          have hPq := hPk.chg_ nq.ok (by simp)
          have d0 := nq.cell c0
          have d1 := nq.cell c1
          have hpq : pb ≠ b := by omega
          have HS : Hid (Chg [b] wr nq.val) := Lib.hid (nq.ok.weak (by simp))
          generalize nq.val = w2 at *
          clear guk hPk c0 c1 p0_
          cases written with
          | true =>
            refine wp_region_noPanic ?_
            refine wp_region_held_drew (S := (fun w' => Blk w' pb 32 #[.slice (some ⟨ab, off, none⟩) ats.length c, .int .i64 pg, .bool rw, .bool ru, .bool rx, .bool lg, .bool dy] ∧ w'.cell? ⟨ab, off + k * 2, none⟩ = some (.int .i64 g) ∧ w'.cell? ⟨ab, off + k * 2 + 1, none⟩ = some (.int .i64 i))) (by kernel_rfl) ?_ (fun hHeld => ?_)
            · exact ⟨hPq, d0, d1⟩
            (refine take_on 0 (some 63) (v := ?_) rfl rfl (by kernel_rfl) (by kernel_rfl) (by kernel_rfl) (fun _ _ _ h => h) (by rfl) (by assumption) ?_ ?_; rotate_left; · (intro w hSw; skip; go_simp; (try with_reducible rfl)))
            (try simp only [Act.put, List.setIfInBounds_toArray, List.set_cons_zero, List.set_cons_succ])
            (refine take_on 1 (some 64) (v := ?_) rfl rfl (by kernel_rfl) (by kernel_rfl) (by kernel_rfl) (fun _ _ _ h => h) (by rfl) (by assumption) ?_ ?_; rotate_left; · (intro w hSw; skip; go_simp; (try with_reducible rfl)))
            (try simp only [Act.put, List.setIfInBounds_toArray, List.set_cons_zero, List.set_cons_succ])
            (refine take_on 2 (some 65) (v := ?_) rfl rfl (by kernel_rfl) (by kernel_rfl) (by kernel_rfl) (fun _ _ _ h => h) (by rfl) (by assumption) ?_ ?_; rotate_left; · (intro w hSw; have p0_ := hSw.1.cell 0; have c0 := hSw.2.1; have c1 := hSw.2.2; simp only [List.getElem?_toArray, List.getElem?_cons_zero] at p0_; go_simp; (try with_reducible rfl)))
            (try simp only [Act.put, List.setIfInBounds_toArray, List.set_cons_zero, List.set_cons_succ])
            (refine take_on 3 (some 66) (v := ?_) rfl rfl (by kernel_rfl) (by kernel_rfl) (by kernel_rfl) (fun _ _ _ h => h) (by rfl) (by assumption) ?_ ?_; rotate_left; · (intro w hSw; skip; go_simp; (try with_reducible rfl)))
            (try simp only [Act.put, List.setIfInBounds_toArray, List.set_cons_zero, List.set_cons_succ])
            (refine take_on 4 (some 67) (v := ?_) rfl rfl (by kernel_rfl) (by kernel_rfl) (by kernel_rfl) (fun _ _ _ h => h) (by rfl) (by assumption) ?_ ?_; rotate_left; · (intro w hSw; skip; go_simp; (try with_reducible rfl)))
            (try simp only [Act.put, List.setIfInBounds_toArray, List.set_cons_zero, List.set_cons_succ])
            (refine take_on 5 (some 68) (v := ?_) rfl rfl (by kernel_rfl) (by kernel_rfl) (by kernel_rfl) (fun _ _ _ h => h) (by rfl) (by assumption) ?_ ?_; rotate_left; · (intro w hSw; skip; go_simp; (try with_reducible rfl)))
            (try simp only [Act.put, List.setIfInBounds_toArray, List.set_cons_zero, List.set_cons_succ])
            (refine take_on 6 (some 69) (v := ?_) rfl rfl (by kernel_rfl) (by kernel_rfl) (by kernel_rfl) (fun _ _ _ h => h) (by rfl) (by assumption) ?_ ?_; rotate_left; · (intro w hSw; have p0_ := hSw.1.cell 0; have c0 := hSw.2.1; have c1 := hSw.2.2; simp only [List.getElem?_toArray, List.getElem?_cons_zero] at p0_; go_simp; (try with_reducible rfl)))
            (try simp only [Act.put, List.setIfInBounds_toArray, List.set_cons_zero, List.set_cons_succ])
            (refine take_on 7 (some 70) (v := ?_) rfl rfl (by kernel_rfl) (by kernel_rfl) (by kernel_rfl) (fun _ _ _ h => h) (by rfl) (by assumption) ?_ ?_; rotate_left; · (intro w hSw; skip; go_simp; (try with_reducible rfl)))
            (try simp only [Act.put, List.setIfInBounds_toArray, List.set_cons_zero, List.set_cons_succ])
            (refine take_on 8 (some 71) (v := ?_) rfl rfl (by kernel_rfl) (by kernel_rfl) (by kernel_rfl) (fun _ _ _ h => h) (by rfl) (by assumption) ?_ ?_; rotate_left; · (intro w hSw; have p0_ := hSw.1.cell 0; have c0 := hSw.2.1; have c1 := hSw.2.2; simp only [List.getElem?_toArray, List.getElem?_cons_zero] at p0_; go_simp; (try with_reducible rfl)))
            (try simp only [Act.put, List.setIfInBounds_toArray, List.set_cons_zero, List.set_cons_succ])
            (refine take_on 9 (some 72) (v := ?_) rfl rfl (by kernel_rfl) (by kernel_rfl) (by kernel_rfl) (fun _ _ _ h => h) (by rfl) (by assumption) ?_ ?_; rotate_left; · (intro w hSw; skip; go_simp; (try with_reducible rfl)))
            (try simp only [Act.put, List.setIfInBounds_toArray, List.set_cons_zero, List.set_cons_succ])
            (refine take_on 10 (some 73) (v := ?_) rfl rfl (by kernel_rfl) (by kernel_rfl) (by kernel_rfl) (fun _ _ _ h => h) (by rfl) (by assumption) ?_ ?_; rotate_left; · (intro w hSw; skip; go_simp; (try with_reducible rfl)))
            (try simp only [Act.put, List.setIfInBounds_toArray, List.set_cons_zero, List.set_cons_succ])
            (refine take_on 11 (some 74) (v := ?_) rfl rfl (by kernel_rfl) (by kernel_rfl) (by kernel_rfl) (fun _ _ _ h => h) (by rfl) (by assumption) ?_ ?_; rotate_left; · (intro w hSw; skip; go_simp; (try with_reducible rfl)))
            (try simp only [Act.put, List.setIfInBounds_toArray, List.set_cons_zero, List.set_cons_succ])
            (refine take_on 12 (some 75) (v := ?_) rfl rfl (by kernel_rfl) (by kernel_rfl) (by kernel_rfl) (fun _ _ _ h => h) (by rfl) (by assumption) ?_ ?_; rotate_left; · (intro w hSw; have p0_ := hSw.1.cell 0; have c0 := hSw.2.1; have c1 := hSw.2.2; simp only [List.getElem?_toArray, List.getElem?_cons_zero] at p0_; go_simp; (try with_reducible rfl)))
            (try simp only [Act.put, List.setIfInBounds_toArray, List.set_cons_zero, List.set_cons_succ])
            (refine take_on 13 (some 76) (v := ?_) rfl rfl (by kernel_rfl) (by kernel_rfl) (by kernel_rfl) (fun _ _ _ h => h) (by rfl) (by assumption) ?_ ?_; rotate_left; · (intro w hSw; skip; go_simp; (try with_reducible rfl)))
            (try simp only [Act.put, List.setIfInBounds_toArray, List.set_cons_zero, List.set_cons_succ])
            (refine take_on 14 (some 77) (v := ?_) rfl rfl (by kernel_rfl) (by kernel_rfl) (by kernel_rfl) (fun _ _ _ h => h) (by rfl) (by assumption) ?_ ?_; rotate_left; · (intro w hSw; skip; go_simp; (try with_reducible rfl)))
            (try simp only [Act.put, List.setIfInBounds_toArray, List.set_cons_zero, List.set_cons_succ])
            (refine take_on 15 (some 78) (v := ?_) rfl rfl (by kernel_rfl) (by kernel_rfl) (by kernel_rfl) (fun _ _ _ h => h) (by rfl) (by assumption) ?_ ?_; rotate_left; · (intro w hSw; skip; go_simp; (try with_reducible rfl)))
            (try simp only [Act.put, List.setIfInBounds_toArray, List.set_cons_zero, List.set_cons_succ])
            (refine take_on 16 (some 79) (v := ?_) rfl rfl (by kernel_rfl) (by kernel_rfl) (by kernel_rfl) (fun _ _ _ h => h) (by rfl) (by assumption) ?_ ?_; rotate_left; · (intro w hSw; skip; go_simp; (try with_reducible rfl)))
            (try simp only [Act.put, List.setIfInBounds_toArray, List.set_cons_zero, List.set_cons_succ])
            (refine take_on 17 (some 80) (v := ?_) rfl rfl (by kernel_rfl) (by kernel_rfl) (by kernel_rfl) (fun _ _ _ h => h) (by rfl) (by assumption) ?_ ?_; rotate_left; · (intro w hSw; skip; go_simp; (try with_reducible rfl)))
            (try simp only [Act.put, List.setIfInBounds_toArray, List.set_cons_zero, List.set_cons_succ])
            (refine take_on 18 (some 81) (v := ?_) rfl rfl (by kernel_rfl) (by kernel_rfl) (by kernel_rfl) (fun _ _ _ h => h) (by rfl) (by assumption) ?_ ?_; rotate_left; · (intro w hSw; have p0_ := hSw.1.cell 0; have c0 := hSw.2.1; have c1 := hSw.2.2; simp only [List.getElem?_toArray, List.getElem?_cons_zero] at p0_; go_simp; (try with_reducible rfl)))
            (try simp only [Act.put, List.setIfInBounds_toArray, List.set_cons_zero, List.set_cons_succ])
            (refine take_on 19 (some 82) (v := ?_) rfl rfl (by kernel_rfl) (by kernel_rfl) (by kernel_rfl) (fun _ _ _ h => h) (by rfl) (by assumption) ?_ ?_; rotate_left; · (intro w hSw; skip; go_simp; (try with_reducible rfl)))
            (try simp only [Act.put, List.setIfInBounds_toArray, List.set_cons_zero, List.set_cons_succ])
            (refine take_on 20 (some 83) (v := ?_) rfl rfl (by kernel_rfl) (by kernel_rfl) (by kernel_rfl) (fun _ _ _ h => h) (by rfl) (by assumption) ?_ ?_; rotate_left; · (intro w hSw; skip; go_simp; (try with_reducible rfl)))
            (try simp only [Act.put, List.setIfInBounds_toArray, List.set_cons_zero, List.set_cons_succ])
            (refine take_on 21 (some 84) (v := ?_) rfl rfl (by kernel_rfl) (by kernel_rfl) (by kernel_rfl) (fun _ _ _ h => h) (by rfl) (by assumption) ?_ ?_; rotate_left; · (intro w hSw; skip; go_simp; (try with_reducible rfl)))
            (try simp only [Act.put, List.setIfInBounds_toArray, List.set_cons_zero, List.set_cons_succ])
            (refine take_on 22 (some 85) (v := ?_) rfl rfl (by kernel_rfl) (by kernel_rfl) (by kernel_rfl) (fun _ _ _ h => h) (by rfl) (by assumption) ?_ ?_; rotate_left; · (intro w hSw; skip; go_simp; (try with_reducible rfl)))
            (try simp only [Act.put, List.setIfInBounds_toArray, List.set_cons_zero, List.set_cons_succ])
            refine wpAnyH_ready (rs := [23]) (by kernel_rfl) (by simp) ?_; refine AllReadyH.cons (o := _) rfl (fun K hK => ?_) AllReadyH.nil
            go_simp
            (go_at_call 41; refine (hUs tl _).mono ?_; rintro e w3 ⟨rfl, rfl⟩)
            refine hK.out _ _ (by (try dsimp only); exact hHeld) (fun hHeld => ?_)
            clear hK K
            (try simp only [Act.put, List.setIfInBounds_toArray, List.set_cons_zero, List.set_cons_succ])
            refine wpAnyH_ready (rs := [24]) (by kernel_rfl) (by simp) ?_; refine AllReadyH.cons (o := _) rfl (fun K hK => ?_) AllReadyH.nil
            go_simp
            (go_at_call 25; refine (rgu_set q S p L h b n Wk g i _ true _ _ (gua.self (Chg.refl [] w2).drew) hh rfl).mono ?_; rintro e w4 ⟨rfl, k4, gu4⟩)
            refine hK.out _ _ (by (try dsimp only); exact ⟨hHeld.1.chg_ k4 (by rw [List.mem_singleton]; exact hpq), (k4.cell (World.block_lt_of_cell? _ _ hHeld.2.1) (by rw [List.mem_singleton]; exact hapb)).trans hHeld.2.1, (k4.cell (World.block_lt_of_cell? _ _ hHeld.2.2) (by rw [List.mem_singleton]; exact hapb)).trans hHeld.2.2⟩) (fun hHeld => ?_)
            clear hK K
            (try simp only [Act.put, List.setIfInBounds_toArray, List.set_cons_zero, List.set_cons_succ])
            refine wpAnyH_done (by kernel_rfl) ?_ _
            refine NoPanic.normal ?_
            go_wp2_with fail
            go_roundw
            case rel => exact ⟨k + 1, by omega, by go_num, (hc2.trans HS.out (by intro i hi hm; exact hm)).trans (Chg.trans (Chg.drew (Chg.refl [b] w2)) k4 (by simp)) (by simp), by rw [HST.out]; exact gu4⟩
            case measure => simp [intOf]; omega
          | false =>
            refine wp_region_noPanic ?_
            refine wp_region_held_drew (S := (fun w' => Blk w' pb 32 #[.slice (some ⟨ab, off, none⟩) ats.length c, .int .i64 pg, .bool rw, .bool ru, .bool rx, .bool lg, .bool dy] ∧ w'.cell? ⟨ab, off + k * 2, none⟩ = some (.int .i64 g) ∧ w'.cell? ⟨ab, off + k * 2 + 1, none⟩ = some (.int .i64 i))) (by kernel_rfl) ?_ (fun hHeld => ?_)
            · exact ⟨hPq, d0, d1⟩
            (refine take_on 0 (some 63) (v := ?_) rfl rfl (by kernel_rfl) (by kernel_rfl) (by kernel_rfl) (fun _ _ _ h => h) (by rfl) (by assumption) ?_ ?_; rotate_left; · (intro w hSw; skip; go_simp; (try with_reducible rfl)))
            (try simp only [Act.put, List.setIfInBounds_toArray, List.set_cons_zero, List.set_cons_succ])
            (refine take_on 1 (some 64) (v := ?_) rfl rfl (by kernel_rfl) (by kernel_rfl) (by kernel_rfl) (fun _ _ _ h => h) (by rfl) (by assumption) ?_ ?_; rotate_left; · (intro w hSw; skip; go_simp; (try with_reducible rfl)))
            (try simp only [Act.put, List.setIfInBounds_toArray, List.set_cons_zero, List.set_cons_succ])
            (refine take_on 2 (some 65) (v := ?_) rfl rfl (by kernel_rfl) (by kernel_rfl) (by kernel_rfl) (fun _ _ _ h => h) (by rfl) (by assumption) ?_ ?_; rotate_left; · (intro w hSw; have p0_ := hSw.1.cell 0; have c0 := hSw.2.1; have c1 := hSw.2.2; simp only [List.getElem?_toArray, List.getElem?_cons_zero] at p0_; go_simp; (try with_reducible rfl)))
            (try simp only [Act.put, List.setIfInBounds_toArray, List.set_cons_zero, List.set_cons_succ])
            (refine take_on 3 (some 66) (v := ?_) rfl rfl (by kernel_rfl) (by kernel_rfl) (by kernel_rfl) (fun _ _ _ h => h) (by rfl) (by assumption) ?_ ?_; rotate_left; · (intro w hSw; skip; go_simp; (try with_reducible rfl)))
            (try simp only [Act.put, List.setIfInBounds_toArray, List.set_cons_zero, List.set_cons_succ])
            (refine take_on 4 (some 67) (v := ?_) rfl rfl (by kernel_rfl) (by kernel_rfl) (by kernel_rfl) (fun _ _ _ h => h) (by rfl) (by assumption) ?_ ?_; rotate_left; · (intro w hSw; skip; go_simp; (try with_reducible rfl)))
            (try simp only [Act.put, List.setIfInBounds_toArray, List.set_cons_zero, List.set_cons_succ])
            (refine take_on 5 (some 68) (v := ?_) rfl rfl (by kernel_rfl) (by kernel_rfl) (by kernel_rfl) (fun _ _ _ h => h) (by rfl) (by assumption) ?_ ?_; rotate_left; · (intro w hSw; skip; go_simp; (try with_reducible rfl)))
            (try simp only [Act.put, List.setIfInBounds_toArray, List.set_cons_zero, List.set_cons_succ])
            (refine take_on 6 (some 69) (v := ?_) rfl rfl (by kernel_rfl) (by kernel_rfl) (by kernel_rfl) (fun _ _ _ h => h) (by rfl) (by assumption) ?_ ?_; rotate_left; · (intro w hSw; have p0_ := hSw.1.cell 0; have c0 := hSw.2.1; have c1 := hSw.2.2; simp only [List.getElem?_toArray, List.getElem?_cons_zero] at p0_; go_simp; (try with_reducible rfl)))
            (try simp only [Act.put, List.setIfInBounds_toArray, List.set_cons_zero, List.set_cons_succ])
            (refine take_on 7 (some 70) (v := ?_) rfl rfl (by kernel_rfl) (by kernel_rfl) (by kernel_rfl) (fun _ _ _ h => h) (by rfl) (by assumption) ?_ ?_; rotate_left; · (intro w hSw; skip; go_simp; (try with_reducible rfl)))
            (try simp only [Act.put, List.setIfInBounds_toArray, List.set_cons_zero, List.set_cons_succ])
            (refine take_on 8 (some 71) (v := ?_) rfl rfl (by kernel_rfl) (by kernel_rfl) (by kernel_rfl) (fun _ _ _ h => h) (by rfl) (by assumption) ?_ ?_; rotate_left; · (intro w hSw; have p0_ := hSw.1.cell 0; have c0 := hSw.2.1; have c1 := hSw.2.2; simp only [List.getElem?_toArray, List.getElem?_cons_zero] at p0_; go_simp; (try with_reducible rfl)))
            (try simp only [Act.put, List.setIfInBounds_toArray, List.set_cons_zero, List.set_cons_succ])
            (refine take_on 9 (some 72) (v := ?_) rfl rfl (by kernel_rfl) (by kernel_rfl) (by kernel_rfl) (fun _ _ _ h => h) (by rfl) (by assumption) ?_ ?_; rotate_left; · (intro w hSw; skip; go_simp; (try with_reducible rfl)))
            (try simp only [Act.put, List.setIfInBounds_toArray, List.set_cons_zero, List.set_cons_succ])
            (refine take_on 10 (some 73) (v := ?_) rfl rfl (by kernel_rfl) (by kernel_rfl) (by kernel_rfl) (fun _ _ _ h => h) (by rfl) (by assumption) ?_ ?_; rotate_left; · (intro w hSw; skip; go_simp; (try with_reducible rfl)))
            (try simp only [Act.put, List.setIfInBounds_toArray, List.set_cons_zero, List.set_cons_succ])
            (refine take_on 11 (some 74) (v := ?_) rfl rfl (by kernel_rfl) (by kernel_rfl) (by kernel_rfl) (fun _ _ _ h => h) (by rfl) (by assumption) ?_ ?_; rotate_left; · (intro w hSw; skip; go_simp; (try with_reducible rfl)))
            (try simp only [Act.put, List.setIfInBounds_toArray, List.set_cons_zero, List.set_cons_succ])
            (refine take_on 12 (some 75) (v := ?_) rfl rfl (by kernel_rfl) (by kernel_rfl) (by kernel_rfl) (fun _ _ _ h => h) (by rfl) (by assumption) ?_ ?_; rotate_left; · (intro w hSw; have p0_ := hSw.1.cell 0; have c0 := hSw.2.1; have c1 := hSw.2.2; simp only [List.getElem?_toArray, List.getElem?_cons_zero] at p0_; go_simp; (try with_reducible rfl)))
            (try simp only [Act.put, List.setIfInBounds_toArray, List.set_cons_zero, List.set_cons_succ])
            (refine take_on 13 (some 76) (v := ?_) rfl rfl (by kernel_rfl) (by kernel_rfl) (by kernel_rfl) (fun _ _ _ h => h) (by rfl) (by assumption) ?_ ?_; rotate_left; · (intro w hSw; skip; go_simp; (try with_reducible rfl)))
            (try simp only [Act.put, List.setIfInBounds_toArray, List.set_cons_zero, List.set_cons_succ])
            (refine take_on 14 (some 77) (v := ?_) rfl rfl (by kernel_rfl) (by kernel_rfl) (by kernel_rfl) (fun _ _ _ h => h) (by rfl) (by assumption) ?_ ?_; rotate_left; · (intro w hSw; skip; go_simp; (try with_reducible rfl)))
            (try simp only [Act.put, List.setIfInBounds_toArray, List.set_cons_zero, List.set_cons_succ])
            (refine take_on 15 (some 78) (v := ?_) rfl rfl (by kernel_rfl) (by kernel_rfl) (by kernel_rfl) (fun _ _ _ h => h) (by rfl) (by assumption) ?_ ?_; rotate_left; · (intro w hSw; skip; go_simp; (try with_reducible rfl)))
            (try simp only [Act.put, List.setIfInBounds_toArray, List.set_cons_zero, List.set_cons_succ])
            (refine take_off 16 (some 79) rfl rfl (by kernel_rfl) (by kernel_rfl) (by kernel_rfl) (fun _ _ _ h => h) (by rfl) (by assumption) ?_)
            (try simp only [Act.put, List.setIfInBounds_toArray, List.set_cons_zero, List.set_cons_succ])
            (refine take_off 17 (some 80) rfl rfl (by kernel_rfl) (by kernel_rfl) (by kernel_rfl) (fun _ _ _ h => h) (by rfl) (by assumption) ?_)
            (try simp only [Act.put, List.setIfInBounds_toArray, List.set_cons_zero, List.set_cons_succ])
            (refine take_off 18 (some 81) rfl rfl (by kernel_rfl) (by kernel_rfl) (by kernel_rfl) (fun _ _ _ h => h) (by rfl) (by assumption) ?_)
            (try simp only [Act.put, List.setIfInBounds_toArray, List.set_cons_zero, List.set_cons_succ])
            (refine take_off 19 (some 82) rfl rfl (by kernel_rfl) (by kernel_rfl) (by kernel_rfl) (fun _ _ _ h => h) (by rfl) (by assumption) ?_)
            (try simp only [Act.put, List.setIfInBounds_toArray, List.set_cons_zero, List.set_cons_succ])
            (refine take_off 20 (some 83) rfl rfl (by kernel_rfl) (by kernel_rfl) (by kernel_rfl) (fun _ _ _ h => h) (by rfl) (by assumption) ?_)
            (try simp only [Act.put, List.setIfInBounds_toArray, List.set_cons_zero, List.set_cons_succ])
            (refine take_off 21 (some 84) rfl rfl (by kernel_rfl) (by kernel_rfl) (by kernel_rfl) (fun _ _ _ h => h) (by rfl) (by assumption) ?_)
            (try simp only [Act.put, List.setIfInBounds_toArray, List.set_cons_zero, List.set_cons_succ])
            (refine take_on 22 (some 85) (v := ?_) rfl rfl (by kernel_rfl) (by kernel_rfl) (by kernel_rfl) (fun _ _ _ h => h) (by rfl) (by assumption) ?_ ?_; rotate_left; · (intro w hSw; skip; go_simp; (try with_reducible rfl)))
            (try simp only [Act.put, List.setIfInBounds_toArray, List.set_cons_zero, List.set_cons_succ])
            refine wpAnyH_ready (rs := [23]) (by kernel_rfl) (by simp) ?_; refine AllReadyH.cons (o := _) rfl (fun K hK => ?_) AllReadyH.nil
            go_simp
            (go_at_call 41; refine (hUs false _).mono ?_; rintro e w3 ⟨rfl, rfl⟩)
            refine hK.out _ _ (by (try dsimp only); exact hHeld) (fun hHeld => ?_)
            clear hK K
            (try simp only [Act.put, List.setIfInBounds_toArray, List.set_cons_zero, List.set_cons_succ])
            refine wpAnyH_ready (rs := [24]) (by kernel_rfl) (by simp) ?_; refine AllReadyH.cons (o := _) rfl (fun K hK => ?_) AllReadyH.nil
            go_simp
            (go_at_call 25; refine (rgu_set q S p L h b n Wk g i _ true _ _ (gua.self (Chg.refl [] w2).drew) hh rfl).mono ?_; rintro e w4 ⟨rfl, k4, gu4⟩)
            refine hK.out _ _ (by (try dsimp only); exact ⟨hHeld.1.chg_ k4 (by rw [List.mem_singleton]; exact hpq), (k4.cell (World.block_lt_of_cell? _ _ hHeld.2.1) (by rw [List.mem_singleton]; exact hapb)).trans hHeld.2.1, (k4.cell (World.block_lt_of_cell? _ _ hHeld.2.2) (by rw [List.mem_singleton]; exact hapb)).trans hHeld.2.2⟩) (fun hHeld => ?_)
            clear hK K
            (try simp only [Act.put, List.setIfInBounds_toArray, List.set_cons_zero, List.set_cons_succ])
            refine wpAnyH_done (by kernel_rfl) ?_ _
            refine NoPanic.normal ?_
            go_wp2_with fail
            go_roundw
            case rel => exact ⟨k + 1, by omega, by go_num, (hc2.trans HS.out (by intro i hi hm; exact hm)).trans (Chg.trans (Chg.drew (Chg.refl [b] w2)) k4 (by simp)) (by simp), by rw [HST.out]; exact gu4⟩
            case measure => simp [intOf]; omega
        · obtain rfl : k = ats.length := by omega
          clear hs1
          go_wp2_with fail
          go_ret
          exact ⟨ret_bool (show true = allAts n L ats from HALL.out.symm), hcw2, by rw [HMP.out, if_pos (show (ats.all fun a => hasG n L a.1 a.2) = true from HALL.out)]; exact guk⟩

end Go.Proofs.YtdfmlodmaipnkaaGreatDoor

namespace Go.Proofs.YtdfmlodmaipnkaaGreatDoor
open Go.RowKit Go.Maps

theorem RGAt.apartW {w : World} {S : List Nat} {p b : Nat} {L W : List Int} (h : RGAt w S p L) (hb : Blk w b 123 (u64s W)) : b ∉ S := by
  obtain ⟨v, h1, h2, rfl, _⟩ := h
  simp only [List.mem_cons, not_or]
  refine ⟨hb.type_ne h1 (by decide), fun hm => ?_⟩
  obtain ⟨cur, hc⟩ := h2.blk hm
  exact hc.type_ne hb (by decide) rfl
theorem one_nin {a x : Nat} (h : a ≠ x) : a ∉ [x] := by rw [List.mem_singleton]; exact h
/-- the document's memory has turned: the guest has not -/
theorem GuIn.far {w w' : World} {q p h b n x : Nat} {S : List Nat} {L W V : List Int} (g : GuIn w q S p L h b n W) (hx : Blk w x 45 (u64s V)) (hc : Chg [x] w w') : GuIn w' q S p L h b n W :=
  g.other hc (one_nin (g.st.type_ne hx (by decide))) (fun i hi hm => by rw [List.mem_singleton] at hm; subst hm; exact g.mp.apartR hx hi) (one_nin (g.hm.st.type_ne hx (by decide))) (one_nin (g.hm.ws.type_ne hx (by decide)))
theorem RGuIn.far {w w' : World} {q p h b n x : Nat} {S : List Nat} {L W V : List Int} (g : RGuIn w q S p L h b n W) (hx : Blk w x 123 (u64s V)) (hc : Chg [x] w w') : RGuIn w' q S p L h b n W :=
  g.other hc (one_nin (g.st.type_ne hx (by decide))) (fun i hi hm => by rw [List.mem_singleton] at hm; subst hm; exact g.mp.apartW hx hi) (one_nin (g.hm.st.type_ne hx (by decide))) (one_nin (g.hm.ws.type_ne hx (by decide)))
theorem RWalk_is (q : Nat) (S : List Nat) (p : Nat) (L : List Int) (h b n : Nat) (W : List Int) (root page kind : Int) (user : Bool) (P : Pa) (how code : Int) (w : World) (gu : RGuIn w q S p L h b n W) (hW : WdW W) (hr : walkP n W L root page kind user = (P, how, code)) :
    Calls Tryz.prog 8 #[.pointer (some ⟨q, 0, none⟩), .int .i64 root, .int .i64 page, .int .i64 kind, .bool user] w fun e w' =>
      ∃ A c, e = .returned (.tuple #[.agg (pathV A c P), .int .i64 how, .int .i64 code]) ∧ OwnA w' 51 (.slice A P.ats.length c) P.ats ∧ (∀ g ∈ (Value.slice A P.ats.length c).ownBlock.toList, w.heap.size ≤ g) ∧ Chg [] w w' :=
  (RWalk_at q S p L h b n W root page kind user w gu hW).mono fun e w' hh => by
    rw [hr] at hh
    obtain ⟨A, c, h1, h2, h3⟩ := hh
    exact ⟨A, c, h1, own_weak h2 (Nat.zero_le _), own_low h2, h3⟩

set_option maxRecDepth 100000 in
set_option maxHeartbeats 8000000 in
theorem Plain_at (A : Option Addr) (m c : Nat) (l : List Pu) (w : World) (h : SlP w A m l) :
    Calls Tryz.prog 6 #[.slice A m c] w fun e w' => ∃ q S p hh b, e = .returned (.pointer (some ⟨q, 0, none⟩)) ∧ Chg [] w w' ∧ RGuIn w' q S p L16 hh b 16 (madeW l) ∧ w.heap.size ≤ b := by
  have hl := h.le
  have hlen := h.len
  obtain ⟨i0, hi0, hz0, hz1, hz2⟩ := info_parts int_info
  go_enter Tryz.func6, Tryz.ntmps6
  go_wp2_with fail
  go_loopw [3, 4] (fun v i w' => ∃ k : Nat, k ≤ 16 ∧ i = .int .i64 k ∧ Chg [] w w' ∧ w'.ownsRow w.heap.size 3 1 v k (vals .i64 (L16.take k))) (fun _ i _ => 16 - (intOf i).toNat)
  case atStart => exact ⟨0, by omega, rfl, Chg.refl [] w, World.ownsRow_nil _ _ _ _⟩
  case round =>
    obtain ⟨k, hk, rfl, hc, ho⟩ := hrel
    by_cases hlt : k < 16
    · have hk1 : vals .i64 (L16.take (k + 1)) = vals .i64 (L16.take k) ++ [.int .i64 (k : Int)] := by
        have : ∀ j : Fin 16, L16.take (j.val + 1) = L16.take j.val ++ [(j.val : Int)] := by decide
        rw [this ⟨k, hlt⟩, vals_app]; rfl
      have HK1 := Lib.hid hk1
      have hws := hc.size
      clear hk1
      obtain ⟨A1, c1, rfl, _, _⟩ := own_form ho
      go_wp2_with (at_builtin; refine wpList_append_src rfl _ _ 52 rfl w.heap.size 3 i0 _ 1 8 Tryz.underlying52 hi0 hz0 hz1 hz2 rfl (by omega) _ _ _ rfl (World.ownsRow.alloc ho _) (some ⟨wr.heap.size, 0, none⟩) 1 1 [.int .i64 k] rfl (src_one (Blk.new wr 3 #[.int .i64 (k : Int)])) (by simp [maxLen]; omega) (by omega) (by simp; omega) ?_; intro v3 w3 hown3 hc3 hv3)
      go_roundw
      case rel =>
        refine ⟨k + 1, by omega, by go_num, (hc.alloc (.cells #[.int .i64 (k : Int)] 3)).trans hc3 (fun i hi hm => ?_), by rw [HK1.out]; exact hown3⟩
        have := own_low ho i hm
        omega
      case measure => simp [intOf]; omega
    · obtain rfl : k = 16 := by omega
      rw [show L16.take 16 = L16 by decide] at ho
      clear hlt hk
      obtain ⟨A1, c1, rfl, _, _⟩ := own_form ho
      have hoI : OwnI wr 3 .i64 (.slice A1 16 c1) L16 := own_weak ho (Nat.zero_le _)
      clear ho
      go_wp2_with fail
      refine (RNew_at 16 _ (by omega) (by omega)).mono ?_; rintro e w2 ⟨hp, b, rfl, hc2, hm2, hh, hb⟩
      have hca := hc.trans hc2 (by simp)
      have hbw : w.heap.size ≤ b := by have := hc.size; omega
      have hsk := (hoI.chg hc2 (by simp)).slk (fun x hx => by
        have h16 : ∀ y ∈ L16, 0 ≤ y ∧ y ≤ 15 := by decide
        have := h16 x hx
        simp [IntKind.min, IntKind.max, IntKind.signed, IntKind.bits]; omega) (by decide)
      clear hoI hc hc2 hh hb
      go_wp2_with fail
      refine (RGNew_ok A1 16 c1 L16 16 _ hsk L16_ok).mono ?_; rintro e w3 ⟨p, S, rfl, hc3, h3, hS⟩
      have hm3 := hm2.chg hc3 (by simp) (by simp)
      have hcb : Chg [] w w3 := hca.trans hc3 (by simp)
      clear hca hc3 hm2 hS hsk
      go_wp2_with fail
      refine (RGuNew_at p hp _).mono ?_; rintro e w4 ⟨q, rfl, hc4, h4, hq⟩
      have g4 : RGuIn w4 q S p L16 hp b 16 (zeros (8 * 16)) := ⟨h4, h3.self hc4, hm3.chg hc4 (by simp) (by simp), L16_ok.inh⟩
      have hcc : Chg [] w w4 := hcb.trans hc4 (by simp)
      clear hcb hc4 h4 h3 hm3 hq
      rw [← made_nil, show ([] : List Pu) = l.take 0 from rfl] at g4
      go_wp2_with fail
      go_loopw [6] (fun i w' => ∃ k : Nat, k ≤ m ∧ i = .int .i64 k ∧ Chg [] w w' ∧ RGuIn w' q S p L16 hp b 16 (madeW (l.take k))) (fun i _ => m - (intOf i).toNat)
      case atStart => exact ⟨0, by omega, rfl, hcc, g4⟩
      case round =>
        clear hcc g4
        obtain ⟨k, hk, rfl, hc, g⟩ := hrel
        by_cases hlt : k < m
        · obtain ⟨ob, off, x, rfl, _, hx, c1, c2, c3⟩ := (h.self hc).get hlt
          have HSN := Lib.hid (made_snoc hx)
          generalize madeW (l.take k) = Wk at *
          obtain ⟨xg, xi, xv⟩ := x
          simp only at c1 c2 c3
          have hset := RGuSet_at q S p L16 hp b 16 Wk xg xi xv wr.drew (g.self (Chg.refl [] wr).drew)
          clear hx hlen
          go_wp2_with fail
          refine wp_region_still_tail 16 (by kernel_rfl) (by kernel_rfl) ?_
          simp only [List.take_succ_cons, List.take_zero, List.drop_succ_cons, List.drop_zero]
          change wpStill _ _ (World.drew _) _ _ _
          iterate 16 still_step
          refine wpStill_nil ?_
          change wpList _ _ _ _ _ (World.drew wr)
          go_wp2_with fail
          refine hset.mono ?_; rintro e w3 ⟨rfl, hc3, g3⟩
          clear hset c1 c2 c3
          have hcw : Chg [] w w3 := ((hc.trans (Chg.refl [] wr).drew (by simp)).trans hc3 (by intro i hi hm; simp at hm; omega))
          go_wp2_with fail
          go_roundw
          case rel => exact ⟨k + 1, by omega, by go_num, hcw, by rw [HSN.out]; exact g3⟩
          case measure => simp [intOf]; omega
        · obtain rfl : k = m := by omega
          rw [← hlen, List.take_length] at g
          clear hlt hk hlen
          go_wp2_with fail
          go_ret
          exact ⟨q, S, p, hp, b, rfl, hc, g, hbw⟩

section
variable (q : Nat) (S : List Nat) (p : Nat) (L : List Int) (h b n : Nat) (W : List Int) (A B : Option Addr) (c d : Nat) (P : Pa) (cs ds : Array Value)
theorem Same_is (e1 : pathV A c P = cs) (e2 : pathV B d P = ds) (w : World) (hA : SlA w A P.ats.length P.ats) (hB : SlA w B P.ats.length P.ats) (hN : P.ats.length ≤ 9223372036854775807) :
    Calls Tryz.prog 9 #[.agg cs, .agg ds] w fun e w' => e = .returned (.bool true) ∧ Chg [] w w' := e1 ▸ e2 ▸ Same_eq A B c d P w hA hB hN
theorem Marked_is (u : Bool) (e1 : pathV A c P = cs) (hu : usedAts n W L P.ats = u) (w : World) (gu : GuIn w q S p L h b n W) (hW : WdW W) (hs : SlA w A P.ats.length P.ats) (hN : P.ats.length ≤ 9223372036854775807) :
    Calls Tryz.prog 10 #[.pointer (some ⟨q, 0, none⟩), .agg cs] w fun e w' => e = .returned (.bool u) ∧ Chg [] w w' := e1 ▸ hu ▸ Marked_at q S p L h b n W A c P w gu hW hs hN
theorem RMarked_is (u : Bool) (e1 : pathV A c P = cs) (hu : usedAts n W L P.ats = u) (w : World) (gu : RGuIn w q S p L h b n W) (hW : WdW W) (hs : SlA w A P.ats.length P.ats) (hN : P.ats.length ≤ 9223372036854775807) :
    Calls Tryz.prog 11 #[.pointer (some ⟨q, 0, none⟩), .agg cs] w fun e w' => e = .returned (.bool u) ∧ Chg [] w w' := e1 ▸ hu ▸ RMarked_at q S p L h b n W A c P w gu hW hs hN
theorem Mark_is (written al : Bool) (W3 : List Int) (e1 : pathV A c P = cs) (ha : allAts n L P.ats = al) (hW3 : markP n L P.ats written W = W3) (w : World) (gu : GuIn w q S p L h b n W) (hW : WdW W) (hs : SlA w A P.ats.length P.ats) (hN : P.ats.length ≤ 9223372036854775807) (hap : ∀ g o, A = some ⟨g, o, none⟩ → g ≠ b) :
    Calls Tryz.prog 12 #[.pointer (some ⟨q, 0, none⟩), .agg cs, .bool written] w fun e w' => e = .returned (.bool al) ∧ Chg [b] w w' ∧ GuIn w' q S p L h b n W3 := e1 ▸ ha ▸ hW3 ▸ Mark_at q S p L h b n W A c P written w gu hW hs hN hap
theorem RMark_is (written al : Bool) (W3 : List Int) (e1 : pathV A c P = cs) (ha : allAts n L P.ats = al) (hW3 : markP n L P.ats written W = W3) (w : World) (gu : RGuIn w q S p L h b n W) (hW : WdW W) (hs : SlA w A P.ats.length P.ats) (hN : P.ats.length ≤ 9223372036854775807) (hap : ∀ g o, A = some ⟨g, o, none⟩ → g ≠ b) :
    Calls Tryz.prog 13 #[.pointer (some ⟨q, 0, none⟩), .agg cs, .bool written] w fun e w' => e = .returned (.bool al) ∧ Chg [b] w w' ∧ RGuIn w' q S p L h b n W3 := e1 ▸ ha ▸ hW3 ▸ RMark_at q S p L h b n W A c P written w gu hW hs hN hap
end

end Go.Proofs.YtdfmlodmaipnkaaGreatDoor

namespace Go.Proofs.YtdfmlodmaipnkaaGreatDoor
open Go.RowKit Go.Maps

/-- an own row of words is a slice of words -/
theorem OwnI.slw {w : World} {t : TypeId} {A : Option Addr} {n c : Nat} {L : List Int} (h : OwnI w t .u64 (.slice A n c) L) : SlU w A n L := by
  have hn := h.slice
  subst hn
  exact own_slu h

set_option maxRecDepth 100000 in
set_option maxHeartbeats 16000000 in
theorem WalkTells_walk (A : Option Addr) (m c : Nat) (l : List Pu) (root page kind : Int) (user written : Bool) (w : World) (h : SlP w A m l) (hE : ErrIn w) :
    Calls Tryz.prog 3 #[.slice A m c, .int .i64 root, .int .i64 page, .int .i64 kind, .bool user, .bool written] w fun e w' => e = .returned (.bool true) ∧ Chg [] w w' := by
  have hwd := made_wd l h.wf
  have hl := h.le
  go_enter Tryz.func3, Tryz.ntmps3
  go_wp2_with fail
  refine (Wahead_any _ hE).mono ?_; rintro e w1 ⟨rfl, hc1⟩
  go_wp2_with fail
  refine (Made_at A m c l _ (h.self hc1)).mono ?_; rintro e w2 ⟨q, S, p, hh, b, rfl, hc2, g2, hb⟩
  have hca : Chg [] w w2 := hc1.trans hc2 (by simp)
  have hbw : w.heap.size ≤ b := by have := hc1.size; omega
  have hE2 := hE.self hca
  have hpos : 0 < w.heap.size := World.block_lt_of_cell? _ _ hE
  have hPl := fun w0 (hc : Chg [] w2 w0) => Plain_at A m c l w0 ((h.self hca).self hc)
  generalize madeW l = W at *
  obtain ⟨hwd, hWl⟩ := hwd
  clear hc1 hc2 hb h hE
  by_cases hbig : (m : Int) > 600
  · go_wp2_with fail
    go_ret
    exact ⟨rfl, hca⟩
  · have hPl := hPl _ (Chg.refl [] w2)
    go_wp2_with fail
    refine hPl.mono ?_; rintro e w3 ⟨q', S', p', hh', b', rfl, hc3, g3, hb3⟩
    have hcb : Chg [] w w3 := hca.trans hc3 (by simp)
    have hbw' : w.heap.size ≤ b' := by have := hca.size; omega
    have gg := g2.self hc3
    have hE3 := hE2.self hc3
    clear hPl hca hc3 g2 hE2 hb3
    cases hr : walkP 16 W L16 root page kind user with
    | mk P hc =>
      obtain ⟨how, code⟩ := hc
      have hlen := walk_len hr
      obtain ⟨pats, pg, ⟨prw, pru, prx⟩, plg, pdy⟩ := P
      have hlen' : pats.length ≤ 3 := hlen
      have hNN := Nat.le_trans hlen' (show 3 ≤ 9223372036854775807 by decide)
      clear hlen
      go_wp2_with fail
      refine (Walk_is q S p L16 hh b 16 W root page kind user ⟨pats, pg, ⟨prw, pru, prx⟩, plg, pdy⟩ how code _ hE3 gg hwd hr).mono ?_; rintro e v1 ⟨A1, c1, rfl, r1, l1, k1⟩
      rw [show pathV A1 c1 ⟨pats, pg, ⟨prw, pru, prx⟩, plg, pdy⟩ = #[.slice A1 pats.length c1, .int .i64 pg, .bool prw, .bool pru, .bool prx, .bool plg, .bool pdy] from rfl]
      have x1 : Chg [] w3 (v1.alloc (.cells #[.slice A1 pats.length c1, .int .i64 pg, .bool prw, .bool pru, .bool prx, .bool plg, .bool pdy] 32)) := k1.alloc _
      have cc1 := hcb.trans x1 (by simp)
      have gg1 := gg.self x1
      have EE1 := hE3.self x1
      have b1_ := Blk.new v1 32 #[.slice A1 pats.length c1, .int .i64 pg, .bool prw, .bool pru, .bool prx, .bool plg, .bool pdy]
      have s1_ := (OwnA.sla r1).self ((Chg.refl [] v1).alloc (.cells #[.slice A1 pats.length c1, .int .i64 pg, .bool prw, .bool pru, .bool prx, .bool plg, .bool pdy] 32))
      have n1_ : ∀ g o, A1 = some ⟨g, o, none⟩ → g ≠ b := fun g o e => by have := l1 g (by rw [e]; simp [Value.ownBlock]); have := gg.hm.ws.lt; omega
      have rg1 := g3.self x1
      have m1_ : ∀ g o, A1 = some ⟨g, o, none⟩ → g ≠ b' := fun g o e => by have := l1 g (by rw [e]; simp [Value.ownBlock]); have := g3.hm.ws.lt; omega
      clear g3 hcb gg hE3 r1 l1 k1 x1
      go_wp2_with fail
      refine (RWalk_is q' S' p' L16 hh' b' 16 W root page kind user ⟨pats, pg, ⟨prw, pru, prx⟩, plg, pdy⟩ how code _ rg1 hwd hr).mono ?_; rintro e v2 ⟨A2, c2, rfl, r2, l2, k2⟩
      rw [show pathV A2 c2 ⟨pats, pg, ⟨prw, pru, prx⟩, plg, pdy⟩ = #[.slice A2 pats.length c2, .int .i64 pg, .bool prw, .bool pru, .bool prx, .bool plg, .bool pdy] from rfl]
      have x2 : Chg [] (v1.alloc (.cells #[.slice A1 pats.length c1, .int .i64 pg, .bool prw, .bool pru, .bool prx, .bool plg, .bool pdy] 32)) (v2.alloc (.cells #[.slice A2 pats.length c2, .int .i64 pg, .bool prw, .bool pru, .bool prx, .bool plg, .bool pdy] 32)) := k2.alloc _
      have cc2 := cc1.trans x2 (by simp)
      have gg2 := gg1.self x2
      have EE2 := EE1.self x2
      have b2_ := Blk.new v2 32 #[.slice A2 pats.length c2, .int .i64 pg, .bool prw, .bool pru, .bool prx, .bool plg, .bool pdy]
      have s2_ := (OwnA.sla r2).self ((Chg.refl [] v2).alloc (.cells #[.slice A2 pats.length c2, .int .i64 pg, .bool prw, .bool pru, .bool prx, .bool plg, .bool pdy] 32))
      have n2_ : ∀ g o, A2 = some ⟨g, o, none⟩ → g ≠ b := fun g o e => by have := l2 g (by rw [e]; simp [Value.ownBlock]); have := gg1.hm.ws.lt; omega
      have b1_ := b1_.chg_ x2 (by simp); have s1_ := s1_.self x2
      have rg2 := rg1.self x2
      have m2_ : ∀ g o, A2 = some ⟨g, o, none⟩ → g ≠ b' := fun g o e => by have := l2 g (by rw [e]; simp [Value.ownBlock]); have := rg1.hm.ws.lt; omega
      clear rg1 cc1 gg1 EE1 r2 l2 k2 x2
      go_wp2_with fail
      generalize hz2 : (v2.alloc (.cells #[.slice A2 pats.length c2, .int .i64 pg, .bool prw, .bool pru, .bool prx, .bool plg, .bool pdy] 32)) = wz at *
      generalize v2.heap.size = z2 at *
      generalize v1.heap.size = z1 at *
      clear hz2
      obtain ⟨q0, q1, q2, q3, q4, q5, q6, _, _, _, _, _, _, _⟩ := blk7 b1_
      obtain ⟨r0, r1, r2, r3, r4, r5, r6, _, _, _, _, _, _, _⟩ := blk7 b2_
      have K0 := fun nq : Cls wz => nq.cell q0; have M0 := fun nq : Cls wz => nq.cell r0
      have K1 := fun nq : Cls wz => nq.cell q1; have M1 := fun nq : Cls wz => nq.cell r1
      have K2 := fun nq : Cls wz => nq.cell q2; have M2 := fun nq : Cls wz => nq.cell r2
      have K3 := fun nq : Cls wz => nq.cell q3; have M3 := fun nq : Cls wz => nq.cell r3
      have K4 := fun nq : Cls wz => nq.cell q4; have M4 := fun nq : Cls wz => nq.cell r4
      have K5 := fun nq : Cls wz => nq.cell q5; have M5 := fun nq : Cls wz => nq.cell r5
      have K6 := fun nq : Cls wz => nq.cell q6; have M6 := fun nq : Cls wz => nq.cell r6
      obtain ⟨us, hus⟩ : ∃ us, usedAts 16 W L16 pats = us := ⟨_, rfl⟩
      obtain ⟨al, hal⟩ : ∃ al, allAts 16 L16 pats = al := ⟨_, rfl⟩
      obtain ⟨W3, hW3⟩ : ∃ W3, markP 16 L16 pats written W = W3 := ⟨_, rfl⟩
      have HSa := fun m : Cls wz => Same_is A1 A2 c1 c2 ⟨pats, pg, ⟨prw, pru, prx⟩, plg, pdy⟩ #[.slice A1 pats.length c1, .int .i64 pg, .bool prw, .bool pru, .bool prx, .bool plg, .bool pdy] #[.slice A2 pats.length c2, .int .i64 pg, .bool prw, .bool pru, .bool prx, .bool plg, .bool pdy] rfl rfl m.val (s1_.self m.ok) (s2_.self m.ok) hNN
      have HM1 := fun m : Cls wz => Marked_is q S p L16 hh b 16 W A1 c1 ⟨pats, pg, ⟨prw, pru, prx⟩, plg, pdy⟩ #[.slice A1 pats.length c1, .int .i64 pg, .bool prw, .bool pru, .bool prx, .bool plg, .bool pdy] us rfl hus m.val (gg2.self m.ok) hwd (s1_.self m.ok) hNN
      have HM2 := fun m : Cls wz => RMarked_is q' S' p' L16 hh' b' 16 W A2 c2 ⟨pats, pg, ⟨prw, pru, prx⟩, plg, pdy⟩ #[.slice A2 pats.length c2, .int .i64 pg, .bool prw, .bool pru, .bool prx, .bool plg, .bool pdy] us rfl hus m.val (rg2.self m.ok) hwd (s2_.self m.ok) hNN
      have t1 : (how != how) = false := by simp
      have t2 : (code != code) = false := by simp
      have t3 : (us != us) = false := by simp
      have t4 : (al == al) = true := by simp
      clear hr EE2 hbig hus
      refine wp_region_cls (by kernel_rfl) (by kernel_rfl) ?_
      repeat (go_big_quiet_step (first | (go_at_call 9; with_reducible exact Calls.cls (HSa _)) | (go_at_call 10; with_reducible exact Calls.cls (HM1 _)) | (go_at_call 11; with_reducible exact Calls.cls (HM2 _))))
      refine wpQuiet_nil ?_
      rintro _ ⟨nq, rfl⟩
      have b1_ := b1_.chg_ nq.ok (by simp); have b2_ := b2_.chg_ nq.ok (by simp)
      have s1_ := s1_.self nq.ok; have s2_ := s2_.self nq.ok
      have g5 := gg2.self nq.ok; have rg5 := rg2.self nq.ok
      have c5 := cc2.trans nq.ok (by simp)
      generalize nq.val = w5 at *
      clear nq HSa HM1 HM2 gg2 rg2 cc2 K0 M0 q0 r0 K1 M1 q1 r1 K2 M2 q2 r2 K3 M3 q3 r3 K4 M4 q4 r4 K5 M5 q5 r5 K6 M6 q6 r6
      obtain ⟨q0, q1, q2, q3, q4, q5, q6, _, _, _, _, _, _, _⟩ := blk7 b1_
      obtain ⟨r0, r1, r2, r3, r4, r5, r6, _, _, _, _, _, _, _⟩ := blk7 b2_
      have hMk := Mark_is q S p L16 hh b 16 W A1 c1 ⟨pats, pg, ⟨prw, pru, prx⟩, plg, pdy⟩ #[.slice A1 pats.length c1, .int .i64 pg, .bool prw, .bool pru, .bool prx, .bool plg, .bool pdy] written al W3 rfl hal hW3 w5 g5 hwd s1_ hNN n1_
      go_wp2_with fail
      refine hMk.mono ?_; rintro e w6 ⟨rfl, k6, g6⟩
      have b2a := b2_
      have b2_ := b2a.chg_ k6 (by rw [List.mem_singleton]; exact fun e => Blk.type_ne b2a (e ▸ g5.hm.ws) (by decide) rfl)
      have s2_ := s2_.chg k6 (fun g o e => by rw [List.mem_singleton]; exact n2_ g o e)
      have rg6 := rg5.far g5.hm.ws k6
      have c6 : Chg [] w w6 := c5.trans k6 (by intro i hi hm; rw [List.mem_singleton] at hm; omega)
      clear hMk g5 rg5 c5 k6 b2a s1_ b1_ q0 r0 q1 r1 q2 r2 q3 r3 q4 r4 q5 r5 q6 r6
      obtain ⟨r0, r1, r2, r3, r4, r5, r6, _, _, _, _, _, _, _⟩ := blk7 b2_
      have hMr := RMark_is q' S' p' L16 hh' b' 16 W A2 c2 ⟨pats, pg, ⟨prw, pru, prx⟩, plg, pdy⟩ #[.slice A2 pats.length c2, .int .i64 pg, .bool prw, .bool pru, .bool prx, .bool plg, .bool pdy] written al W3 rfl hal hW3 w6 rg6 hwd s2_ hNN m2_
      go_wp2_with fail
      refine hMr.mono ?_; rintro e w7 ⟨rfl, k7, rg7⟩
      have g7 := g6.far rg6.hm.ws k7
      have c7 : Chg [] w w7 := c6.trans k7 (by intro i hi hm; rw [List.mem_singleton] at hm; omega)
      clear hMr g6 rg6 c6 k7 s2_ b2_ r0 r1 r2 r3 r4 r5 r6
      have hAll1 := GuAll_at q S p L16 hh b 16 W3 _ g7
      simp only [L16_len, Nat.reduceMul] at hAll1
      go_wp2_with fail
      refine hAll1.mono ?_; rintro e w8 ⟨A8, k8_, rfl, k8, ho8, lo8⟩
      have rg8 := rg7.self k8
      have c8 := c7.trans k8 (by simp)
      clear hAll1 g7 rg7 c7 k8 lo8
      have hAll2 := RGuAll_at q' S' p' L16 hh' b' 16 W3 _ rg8
      simp only [L16_len, Nat.reduceMul] at hAll2
      go_wp2_with fail
      refine hAll2.mono ?_; rintro e w9 ⟨A9, k9_, rfl, k9, ho9, lo9⟩
      have ho8 := ho8.chg k9 (by simp)
      have c9 := c8.trans k9 (by simp)
      change OwnI w9 _ _ (.slice A8 128 k8_) _ at ho8
      change OwnI w9 _ _ (.slice A9 128 k9_) _ at ho9
      go_wp2_with fail
      refine (SameWords_any A8 A9 _ _ k8_ k9_ _ _ _ ho8.slw ho9.slw (by omega) (by omega)).mono ?_; rintro e w10 ⟨rfl, k10, rfl⟩
      rw [eqL_self]
      go_wp2_with fail
      go_ret
      exact ⟨ret_bool (by simp), c9.drewN k10⟩

end Go.Proofs.YtdfmlodmaipnkaaGreatDoor
