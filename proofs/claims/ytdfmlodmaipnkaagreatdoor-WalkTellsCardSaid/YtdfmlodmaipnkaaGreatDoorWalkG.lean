/-
  The contracts of package walk: each, Mark, Marked.
-/
import Derived.Test.YtdfmlodmaipnkaaGreatDoorWalkC
import Derived.Test.YtdfmlodmaipnkaaGreatDoorWalkM
namespace Go.Proofs.YtdfmlodmaipnkaaGreatDoor
open Go.RowKit Go.Maps

set_option maxHeartbeats 400000 in
theorem anyhow_any (v : Int) (w : World) : Calls Tryz.prog 39 #[.int .u64 v] w fun e w' => e = .returned (.bool true) ∧ w = w' := by
  go_enter Tryz.func39, Tryz.ntmps39
  go_wp2_with fail
  go_ret
  exact ⟨rfl, rfl⟩

set_option maxRecDepth 100000 in
set_option maxHeartbeats 1000000 in
theorem used_any (v : Nat) (w : World) (hv : v < 18446744073709551616) : Calls Tryz.prog 38 #[.int .u64 v] w fun e w' => e = .returned (.bool (getE v).a) ∧ Chg [] w w' := by
  have hcs : (getE v).cs = #[.bool (getE v).p, .bool (getE v).w, .bool (getE v).u, .bool (getE v).a, .bool (getE v).d, .bool (getE v).s, .bool (getE v).n, .bool (getE v).bad, .int .i64 (getE v).f] := rfl
  have hGet : ∀ w0 : World, Calls Tryz.prog 61 #[.int .u64 v] w0 fun e w' => e = .returned (.agg (getE v).cs) ∧ Chg [] w0 w' := fun w0 => Get_any v w0 hv
  rw [hcs] at hGet
  generalize (getE v).p = e0 at *
  generalize (getE v).w = e1 at *
  generalize (getE v).u = e2 at *
  generalize (getE v).a = e3 at *
  generalize (getE v).d = e4 at *
  generalize (getE v).s = e5 at *
  generalize (getE v).n = e6 at *
  generalize (getE v).bad = e7 at *
  generalize (getE v).f = e8 at *
  clear hcs
  have hfd : ∀ w0 : World, (Instr.field 77 (.agg #[.bool e0, .bool e1, .bool e2, .bool e3, .bool e4, .bool e5, .bool e6, .bool e7, .int .i64 e8]) 3).run Tryz.prog w0 = .ok (.bool e3) w0 := fun w0 => by kernel_rfl
  go_enter Tryz.func38, Tryz.ntmps38
  go_wp2_with fail
  refine (hGet _).mono ?_; rintro e w1 ⟨rfl, h1⟩
  go_wp2_with fail
  go_ret
  exact ⟨rfl, h1⟩

set_option maxRecDepth 100000 in
set_option maxHeartbeats 4000000 in
theorem each_anyhow (q : Nat) (S : List Nat) (p : Nat) (L : List Int) (h b n : Nat) (W : List Int) (A : Option Addr) (N c : Nat) (ats : List (Int × Int)) (w : World) (gu : GuIn w q S p L h b n W) (hW : WdW W) (hs : SlA w A N ats) (hN : N ≤ 9223372036854775807) :
    Calls Tryz.prog 37 #[.pointer (some ⟨q, 0, none⟩), .slice A N c, .func (.func 39) #[] #[]] w fun e w' => e = .returned (.bool (ats.all fun a => hasG n L a.1 a.2)) ∧ Chg [] w w' := by
  have hlen := hs.len
  go_enter Tryz.func37, Tryz.ntmps37
  go_wp2_with fail
  go_loopw [13] (fun i w' => ∃ k : Nat, k ≤ N ∧ i = .int .i64 k ∧ Chg [] w w' ∧ (ats.take k).all (fun a => hasG n L a.1 a.2) = true) (fun i _ => N - (intOf i).toNat)
  case atStart => exact ⟨0, by omega, rfl, Chg.refl [] w, rfl⟩
  case round =>
    obtain ⟨k, hk, rfl, hc, hall⟩ := hrel
    by_cases hlt : k < N
    · obtain ⟨ab, off, rfl, hb, hx, c0, c1⟩ := (hs.self hc).get hlt
      have guk := gu.self hc
      have hel : ((hasG n L (ats.getD k (0, 0)).1 (ats.getD k (0, 0)).2) = true → (ats.take (k + 1)).all (fun a => hasG n L a.1 a.2) = true) ∧ ((hasG n L (ats.getD k (0, 0)).1 (ats.getD k (0, 0)).2) = false → ats.all (fun a => hasG n L a.1 a.2) = false) := by
        cases ho : (hasG n L (ats.getD k (0, 0)).1 (ats.getD k (0, 0)).2) with
        | true =>
          refine ⟨fun _ => ?_, fun h => by cases h⟩
          have hkl := (List.getElem?_eq_some_iff.1 hx).1
          rw [List.take_succ_eq_append_getElem hkl, (List.getElem?_eq_some_iff.1 hx).2, List.all_append, hall]
          simp only [List.all_cons, List.all_nil, Bool.and_true, Bool.true_and]
          exact ho
        | false =>
          refine ⟨(fun h => by cases h), fun _ => ?_⟩
          rw [List.all_eq_false]
          exact ⟨_, List.mem_of_getElem? hx, by rw [ho]; simp⟩
      generalize hgi : ats.getD k (0, 0) = gi at *
      obtain ⟨g, i⟩ := gi
      simp only at c0 c1 hel hx
      have HX := Lib.hid hx
      clear hgi hx hall hlen
      by_cases hh : hasG n L g i = true
      · obtain ⟨_, r2, r3⟩ := rd_word hW hh
        generalize hv : (getG n W L g i).toNat = v at *
        have hat := Blk.new wr 51 #[.int .i64 g, .int .i64 i]
        have hget := gu_get q S p L h b n W g i v true _ (guk.self ((Chg.refl [] wr).alloc (.cells #[.int .i64 g, .int .i64 i] 51))) r2 hh
        rw [hh] at hel
        have HEL := Lib.hid hel
        clear hel hh r2 hv
        go_wp2_with fail
        refine hget.mono ?_; rintro e w' ⟨rfl, rfl⟩
        go_wp2_with fail
        refine (anyhow_any _ _).mono ?_; rintro e w3 ⟨rfl, rfl⟩
        go_wp2_with fail
        go_roundw
        case rel => exact ⟨k + 1, by omega, by go_num, hc.alloc _, HEL.out.1 (by simp)⟩
        case measure => simp [intOf]; omega
      · have hh' : hasG n L g i = false := by simpa using hh
        have hget := GuGet_at q S p L h b n W g i _ (guk.self ((Chg.refl [] wr).alloc (.cells #[.int .i64 g, .int .i64 i] 51)))
        rw [hh'] at hget hel
        have HEL : Hid (ats.all (fun a => hasG n L a.1 a.2) = false) := Lib.hid (hel.2 (by simp))
        generalize getG n W L g i = v at hget
        clear hh hh' hel
        go_wp2_with fail
        refine hget.mono ?_; rintro e w' ⟨rfl, rfl⟩
        go_wp2_with fail
        go_ret
        exact ⟨ret_bool HEL.out.symm, hc.alloc _⟩
    · obtain rfl : k = N := by omega
      have HALL : Hid (ats.all (fun a => hasG n L a.1 a.2) = true) := Lib.hid (by rw [← hlen, List.take_length] at hall; exact hall)
      clear hall hlen
      go_wp2_with fail
      go_ret
      exact ⟨ret_bool HALL.out.symm, hc⟩

set_option maxRecDepth 100000 in
set_option maxHeartbeats 4000000 in
theorem each_used (q : Nat) (S : List Nat) (p : Nat) (L : List Int) (h b n : Nat) (W : List Int) (A : Option Addr) (N c : Nat) (ats : List (Int × Int)) (w : World) (gu : GuIn w q S p L h b n W) (hW : WdW W) (hs : SlA w A N ats) (hN : N ≤ 9223372036854775807) :
    Calls Tryz.prog 37 #[.pointer (some ⟨q, 0, none⟩), .slice A N c, .func (.func 38) #[] #[]] w fun e w' => e = .returned (.bool (ats.all fun a => hasG n L a.1 a.2 && (getE (getG n W L a.1 a.2).toNat).a)) ∧ Chg [] w w' := by
  have hlen := hs.len
  go_enter Tryz.func37, Tryz.ntmps37
  go_wp2_with fail
  go_loopw [13] (fun i w' => ∃ k : Nat, k ≤ N ∧ i = .int .i64 k ∧ Chg [] w w' ∧ (ats.take k).all (fun a => hasG n L a.1 a.2 && (getE (getG n W L a.1 a.2).toNat).a) = true) (fun i _ => N - (intOf i).toNat)
  case atStart => exact ⟨0, by omega, rfl, Chg.refl [] w, rfl⟩
  case round =>
    obtain ⟨k, hk, rfl, hc, hall⟩ := hrel
    by_cases hlt : k < N
    · obtain ⟨ab, off, rfl, hb, hx, c0, c1⟩ := (hs.self hc).get hlt
      have guk := gu.self hc
      have hel : ((hasG n L (ats.getD k (0, 0)).1 (ats.getD k (0, 0)).2 && (getE (getG n W L (ats.getD k (0, 0)).1 (ats.getD k (0, 0)).2).toNat).a) = true → (ats.take (k + 1)).all (fun a => hasG n L a.1 a.2 && (getE (getG n W L a.1 a.2).toNat).a) = true) ∧ ((hasG n L (ats.getD k (0, 0)).1 (ats.getD k (0, 0)).2 && (getE (getG n W L (ats.getD k (0, 0)).1 (ats.getD k (0, 0)).2).toNat).a) = false → ats.all (fun a => hasG n L a.1 a.2 && (getE (getG n W L a.1 a.2).toNat).a) = false) := by
        cases ho : (hasG n L (ats.getD k (0, 0)).1 (ats.getD k (0, 0)).2 && (getE (getG n W L (ats.getD k (0, 0)).1 (ats.getD k (0, 0)).2).toNat).a) with
        | true =>
          refine ⟨fun _ => ?_, fun h => by cases h⟩
          have hkl := (List.getElem?_eq_some_iff.1 hx).1
          rw [List.take_succ_eq_append_getElem hkl, (List.getElem?_eq_some_iff.1 hx).2, List.all_append, hall]
          simp only [List.all_cons, List.all_nil, Bool.and_true, Bool.true_and]
          exact ho
        | false =>
          refine ⟨(fun h => by cases h), fun _ => ?_⟩
          rw [List.all_eq_false]
          exact ⟨_, List.mem_of_getElem? hx, by rw [ho]; simp⟩
      generalize hgi : ats.getD k (0, 0) = gi at *
      obtain ⟨g, i⟩ := gi
      simp only at c0 c1 hel hx
      have HX := Lib.hid hx
      clear hgi hx hall hlen
      by_cases hh : hasG n L g i = true
      · obtain ⟨_, r2, r3⟩ := rd_word hW hh
        generalize hv : (getG n W L g i).toNat = v at *
        have hat := Blk.new wr 51 #[.int .i64 g, .int .i64 i]
        have hget := gu_get q S p L h b n W g i v true _ (guk.self ((Chg.refl [] wr).alloc (.cells #[.int .i64 g, .int .i64 i] 51))) r2 hh
        rw [hh] at hel
        have HEL := Lib.hid hel
        clear hel hh r2 hv
        have hU := fun w0 => used_any v w0 r3
        generalize (getE v).a = ua at *
        cases ua with
        | true =>
          go_wp2_with fail
          refine hget.mono ?_; rintro e w' ⟨rfl, rfl⟩
          go_wp2_with fail
          refine (hU _).mono ?_; rintro e w3 ⟨rfl, k3⟩
          go_wp2_with fail
          go_roundw
          case rel => exact ⟨k + 1, by omega, by go_num, (hc.alloc _).trans k3 (by simp), HEL.out.1 (by simp)⟩
          case measure => simp [intOf]; omega
        | false =>
          go_wp2_with fail
          refine hget.mono ?_; rintro e w' ⟨rfl, rfl⟩
          go_wp2_with fail
          refine (hU _).mono ?_; rintro e w3 ⟨rfl, k3⟩
          go_wp2_with fail
          go_ret
          exact ⟨ret_bool (HEL.out.2 (by simp)).symm, (hc.alloc _).trans k3 (by simp)⟩
      · have hh' : hasG n L g i = false := by simpa using hh
        have hget := GuGet_at q S p L h b n W g i _ (guk.self ((Chg.refl [] wr).alloc (.cells #[.int .i64 g, .int .i64 i] 51)))
        rw [hh'] at hget hel
        have HEL : Hid (ats.all (fun a => hasG n L a.1 a.2 && (getE (getG n W L a.1 a.2).toNat).a) = false) := Lib.hid (hel.2 (by simp))
        generalize getG n W L g i = v at hget
        clear hh hh' hel
        go_wp2_with fail
        refine hget.mono ?_; rintro e w' ⟨rfl, rfl⟩
        go_wp2_with fail
        go_ret
        exact ⟨ret_bool HEL.out.symm, hc.alloc _⟩
    · obtain rfl : k = N := by omega
      have HALL : Hid (ats.all (fun a => hasG n L a.1 a.2 && (getE (getG n W L a.1 a.2).toNat).a) = true) := Lib.hid (by rw [← hlen, List.take_length] at hall; exact hall)
      clear hall hlen
      go_wp2_with fail
      go_ret
      exact ⟨ret_bool HALL.out.symm, hc⟩

set_option maxHeartbeats 2000000 in
theorem Marked_at (q : Nat) (S : List Nat) (p : Nat) (L : List Int) (h b n : Nat) (W : List Int) (A : Option Addr) (c : Nat) (P : Pa) (w : World) (gu : GuIn w q S p L h b n W) (hW : WdW W) (hs : SlA w A P.ats.length P.ats) (hN : P.ats.length ≤ 9223372036854775807) :
    Calls Tryz.prog 10 #[.pointer (some ⟨q, 0, none⟩), .agg (pathV A c P)] w fun e w' => e = .returned (.bool (usedAts n W L P.ats)) ∧ Chg [] w w' := by
  obtain ⟨ats, pg, ⟨rw, ru, rx⟩, lg, dy⟩ := P
  simp only [pathV, usedAts] at *
  have hE := each_used q S p L h b n W A ats.length c ats _ (gu.self ((Chg.refl [] w).alloc (.cells #[.slice A ats.length c, .int .i64 pg, .bool rw, .bool ru, .bool rx, .bool lg, .bool dy] 32))) hW (hs.self ((Chg.refl [] w).alloc (.cells #[.slice A ats.length c, .int .i64 pg, .bool rw, .bool ru, .bool rx, .bool lg, .bool dy] 32))) hN
  go_enter Tryz.func10, Tryz.ntmps10
  go_wp2_with fail
  refine hE.mono ?_; rintro e w1 ⟨rfl, k1⟩
  go_wp2_with fail
  go_ret
  exact ⟨rfl, ((Chg.refl [] w).alloc _).trans k1 (by simp)⟩

set_option maxRecDepth 100000 in
set_option maxHeartbeats 8000000 in
theorem Mark_at (q : Nat) (S : List Nat) (p : Nat) (L : List Int) (h b n : Nat) (W : List Int) (A : Option Addr) (c : Nat) (P : Pa) (written : Bool) (w : World) (gu : GuIn w q S p L h b n W) (hW : WdW W) (hs : SlA w A P.ats.length P.ats) (hN : P.ats.length ≤ 9223372036854775807) (hap : ∀ g o, A = some ⟨g, o, none⟩ → g ≠ b) :
    Calls Tryz.prog 12 #[.pointer (some ⟨q, 0, none⟩), .agg (pathV A c P), .bool written] w fun e w' => e = .returned (.bool (allAts n L P.ats)) ∧ Chg [b] w w' ∧ GuIn w' q S p L h b n (markP n L P.ats written W) := by
  obtain ⟨ats, pg, ⟨rw, ru, rx⟩, lg, dy⟩ := P
  simp only [pathV] at *
  have hc0 := (Chg.refl [] w).alloc (.cells #[.slice A ats.length c, .int .i64 pg, .bool rw, .bool ru, .bool rx, .bool lg, .bool dy] 32)
  have hP0 := Blk.new w 32 #[.slice A ats.length c, .int .i64 pg, .bool rw, .bool ru, .bool rx, .bool lg, .bool dy]
  have gu0 := gu.self hc0
  have hs0 := hs.self hc0
  have hbw := gu.hm.ws.lt
  have hE := each_anyhow q S p L h b n W A ats.length c ats _ gu0 hW hs0 hN
  have HMP : Hid (markP n L ats written W = if allAts n L ats then markTo n L ats written W ats.length else W) := Lib.hid rfl
  unfold allAts at HMP ⊢
  obtain ⟨p0_, p1_, p2_, p3_, p4_, p5_, p6_, _, _, _, _, _, _, _⟩ := blk7 hP0
  generalize hall : ats.all (fun a => hasG n L a.1 a.2) = ta at *
  go_enter Tryz.func12, Tryz.ntmps12
  go_wp2_with fail
  generalize w.alloc (.cells #[.slice A ats.length c, .int .i64 pg, .bool rw, .bool ru, .bool rx, .bool lg, .bool dy] 32) = w0 at *
  generalize hpb : w.heap.size = pb at *
  refine hE.mono ?_; rintro e w1 ⟨rfl, k1⟩
  have gu1 := gu0.self k1
  have hs1 := hs0.self k1
  have hP1 := hP0.chg_ k1 (by simp)
  have hc1 := hc0.trans k1 (by simp)
  clear hE gu0 hs0 hP0 hc0 k1 p0_ p1_ p2_ p3_ p4_ p5_ p6_ gu hs
  cases ta with
  | false =>
    go_wp2_with fail
    go_ret
    exact ⟨rfl, hc1.weak (by simp), by rw [HMP.out]; exact gu1⟩
  | true =>
    have HALL : Hid (allAts n L ats = true) := Lib.hid hall
    clear hall
    obtain ⟨p0_, p1_, p2_, p3_, p4_, p5_, p6_, _, _, _, _, _, _, _⟩ := blk7 hP1
    go_wp2_with fail
    clear p0_ p1_ p2_ p3_ p4_ p5_ p6_
    go_loopw [20] (fun i w' => ∃ k : Nat, k ≤ ats.length ∧ i = .int .i64 k ∧ Chg [b] w1 w' ∧ GuIn w' q S p L h b n (markTo n L ats written W k)) (fun i _ => ats.length - (intOf i).toNat)
    case atStart => exact ⟨0, by omega, rfl, Chg.refl _ w1, gu1⟩
    case round =>
      obtain ⟨k, hk, rfl, hc, guk⟩ := hrel
      clear gu1
      have hcw : Chg [b] w wr := (hc1.weak (T := [b]) (by simp)).trans hc (by intro i hi hm; exact hm)
      by_cases hlt : k < ats.length
      · have hsk := hs1.chg hc (fun g o e => by have := hap g o e; simp; exact this)
        have hPk := hP1.chg_ hc (by simp; omega)
        obtain ⟨ab, off, hAe, hb, hx, c0, c1⟩ := hsk.get hlt
        subst hAe
        have hWk := hW.mark_to n L ats written k
        have hh := allAts_get HALL.out hlt
        have HST : Hid (markTo n L ats written W (k + 1) = setG n (markTo n L ats written W k) L (ats.getD k (0, 0)).1 (ats.getD k (0, 0)).2 (usedN (getG n (markTo n L ats written W k) L (ats.getD k (0, 0)).1 (ats.getD k (0, 0)).2).toNat (written && decide (k + 1 = ats.length)))) := Lib.hid rfl
        generalize hgi : ats.getD k (0, 0) = gi at *
        obtain ⟨g, i⟩ := gi
        simp only at c0 c1 hx hh HST
        have HX := Lib.hid hx
        clear hgi hx
        generalize markTo n L ats written W k = Wk at *
        obtain ⟨_, r2, r3⟩ := rd_word hWk hh
        have hdec : decide ((k : Int) = (ats.length : Int) - 1) = decide (k + 1 = ats.length) := by rw [decide_eq_decide]; omega
        have hdec2 : ((k : Int) == (ats.length : Int) - 1) = decide (k + 1 = ats.length) := by rw [Bool.eq_iff_iff]; simp; omega
        generalize hv : (getG n Wk L g i).toNat = v at *
        generalize decide (k + 1 = ats.length) = tl at *
        have hwr64 : wrap64 ((ats.length : Int) - 1) = (ats.length : Int) - 1 := by unfold wrap64; omega
        have hat := Blk.new wr 51 #[.int .i64 g, .int .i64 i]
        have hca := (Chg.refl [] wr).alloc (.cells #[.int .i64 g, .int .i64 i] 51)
        have gua := guk.self hca
        have hPa := hPk.alloc (.cells #[.int .i64 g, .int .i64 i] 51)
        have hget := gu_get q S p L h b n Wk g i v true _ gua r2 hh
        obtain ⟨p0_, p1_, p2_, p3_, p4_, p5_, p6_, _, _, _, _, _, _, _⟩ := blk7 hPa
        have hbt := guk.hm.ws.lt
        clear r2 hv guk
        have t0 := hat.cell 0; have t1 := hat.cell 1
        simp only [List.getElem?_toArray, List.getElem?_cons_zero, List.getElem?_cons_succ] at t0 t1
        go_wp2_with fail
        refine hget.mono ?_; rintro e w' ⟨rfl, rfl⟩
        go_wp2_with fail
        generalize hw2 : wr.alloc (.cells #[.int .i64 g, .int .i64 i] 51) = w2 at *
        generalize wr.heap.size = gt at *
        have hUs := fun (t : Bool) (w0 : World) => Used_any v t w0 r3
        cases written with
        | true =>
          refine wp_region_noPanic ?_
          refine wp_region_held_drew (S := (fun w' => Blk w' gt 51 #[.int .i64 g, .int .i64 i])) (by kernel_rfl) ?_ (fun hHeld => ?_)
          · exact hat
          (refine take_on 0 (some 40) (v := ?_) rfl rfl (by kernel_rfl) (by kernel_rfl) (by kernel_rfl) (fun _ _ _ h => h) (by rfl) (by assumption) ?_ ?_; rotate_left; · (intro w hSw; skip; go_simp; (try with_reducible rfl)))
          (try simp only [Act.put, List.setIfInBounds_toArray, List.set_cons_zero, List.set_cons_succ])
          (refine take_on 1 (some 41) (v := ?_) rfl rfl (by kernel_rfl) (by kernel_rfl) (by kernel_rfl) (fun _ _ _ h => h) (by rfl) (by assumption) ?_ ?_; rotate_left; · (intro w hSw; skip; go_simp; (try with_reducible rfl)))
          (try simp only [Act.put, List.setIfInBounds_toArray, List.set_cons_zero, List.set_cons_succ])
          (refine take_on 2 (some 42) (v := ?_) rfl rfl (by kernel_rfl) (by kernel_rfl) (by kernel_rfl) (fun _ _ _ h => h) (by rfl) (by assumption) ?_ ?_; rotate_left; · (intro w hSw; have t0 := hSw.cell 0; have t1 := hSw.cell 1; simp only [List.getElem?_toArray, List.getElem?_cons_zero, List.getElem?_cons_succ] at t0 t1; go_simp; (try with_reducible rfl)))
          (try simp only [Act.put, List.setIfInBounds_toArray, List.set_cons_zero, List.set_cons_succ])
          (refine take_on 3 (some 43) (v := ?_) rfl rfl (by kernel_rfl) (by kernel_rfl) (by kernel_rfl) (fun _ _ _ h => h) (by rfl) (by assumption) ?_ ?_; rotate_left; · (intro w hSw; skip; go_simp; (try with_reducible rfl)))
          (try simp only [Act.put, List.setIfInBounds_toArray, List.set_cons_zero, List.set_cons_succ])
          (refine take_on 4 (some 44) (v := ?_) rfl rfl (by kernel_rfl) (by kernel_rfl) (by kernel_rfl) (fun _ _ _ h => h) (by rfl) (by assumption) ?_ ?_; rotate_left; · (intro w hSw; have t0 := hSw.cell 0; have t1 := hSw.cell 1; simp only [List.getElem?_toArray, List.getElem?_cons_zero, List.getElem?_cons_succ] at t0 t1; go_simp; (try with_reducible rfl)))
          (try simp only [Act.put, List.setIfInBounds_toArray, List.set_cons_zero, List.set_cons_succ])
          (refine take_on 5 (some 45) (v := ?_) rfl rfl (by kernel_rfl) (by kernel_rfl) (by kernel_rfl) (fun _ _ _ h => h) (by rfl) (by assumption) ?_ ?_; rotate_left; · (intro w hSw; skip; go_simp; (try with_reducible rfl)))
          (try simp only [Act.put, List.setIfInBounds_toArray, List.set_cons_zero, List.set_cons_succ])
          (refine take_on 6 (some 46) (v := ?_) rfl rfl (by kernel_rfl) (by kernel_rfl) (by kernel_rfl) (fun _ _ _ h => h) (by rfl) (by assumption) ?_ ?_; rotate_left; · (intro w hSw; skip; go_simp; (try with_reducible rfl)))
          (try simp only [Act.put, List.setIfInBounds_toArray, List.set_cons_zero, List.set_cons_succ])
          (refine take_on 7 (some 47) (v := ?_) rfl rfl (by kernel_rfl) (by kernel_rfl) (by kernel_rfl) (fun _ _ _ h => h) (by rfl) (by assumption) ?_ ?_; rotate_left; · (intro w hSw; skip; go_simp; (try with_reducible rfl)))
          (try simp only [Act.put, List.setIfInBounds_toArray, List.set_cons_zero, List.set_cons_succ])
          (refine take_on 8 (some 48) (v := ?_) rfl rfl (by kernel_rfl) (by kernel_rfl) (by kernel_rfl) (fun _ _ _ h => h) (by rfl) (by assumption) ?_ ?_; rotate_left; · (intro w hSw; skip; go_simp; (try with_reducible rfl)))
          (try simp only [Act.put, List.setIfInBounds_toArray, List.set_cons_zero, List.set_cons_succ])
          (refine take_on 9 (some 49) (v := ?_) rfl rfl (by kernel_rfl) (by kernel_rfl) (by kernel_rfl) (fun _ _ _ h => h) (by rfl) (by assumption) ?_ ?_; rotate_left; · (intro w hSw; skip; go_simp; (try with_reducible rfl)))
          (try simp only [Act.put, List.setIfInBounds_toArray, List.set_cons_zero, List.set_cons_succ])
          refine wpAnyH_ready (rs := [10]) (by kernel_rfl) (by simp) ?_; refine AllReadyH.cons (o := _) rfl (fun K hK => ?_) AllReadyH.nil
          go_simp
          (go_at_call 40; refine (hUs tl _).mono ?_; rintro e w3 ⟨rfl, rfl⟩)
          refine hK.out _ _ (by (try dsimp only); exact hat) (fun hHeld => ?_)
          clear hK K
          (try simp only [Act.put, List.setIfInBounds_toArray, List.set_cons_zero, List.set_cons_succ])
          refine wpAnyH_ready (rs := [11]) (by kernel_rfl) (by simp) ?_; refine AllReadyH.cons (o := _) rfl (fun K hK => ?_) AllReadyH.nil
          go_simp
          (go_at_call 21; refine (gu_set q S p L h b n Wk g i _ true _ _ (gua.self (Chg.refl [] w2).drew) hh rfl).mono ?_; rintro e w4 ⟨rfl, k4, gu4⟩)
          refine hK.out _ _ (by (try dsimp only); exact (Blk.drew hat).chg_ k4 (by rw [List.mem_singleton]; omega)) (fun hHeld => ?_)
          clear hK K
          (try simp only [Act.put, List.setIfInBounds_toArray, List.set_cons_zero, List.set_cons_succ])
          refine wpAnyH_done (by kernel_rfl) ?_ _
          refine NoPanic.normal ?_
          go_wp2_with fail
          go_roundw
          case rel => exact ⟨k + 1, by omega, by go_num, (hc.trans hca (by simp)).trans (Chg.trans (Chg.drew (Chg.refl [b] w2)) k4 (by simp)) (by simp), by rw [HST.out]; exact gu4⟩
          case measure => simp [intOf]; omega
        | false =>
          refine wp_region_noPanic ?_
          refine wp_region_held_drew (S := (fun w' => Blk w' gt 51 #[.int .i64 g, .int .i64 i])) (by kernel_rfl) ?_ (fun hHeld => ?_)
          · exact hat
          (refine take_on 0 (some 40) (v := ?_) rfl rfl (by kernel_rfl) (by kernel_rfl) (by kernel_rfl) (fun _ _ _ h => h) (by rfl) (by assumption) ?_ ?_; rotate_left; · (intro w hSw; skip; go_simp; (try with_reducible rfl)))
          (try simp only [Act.put, List.setIfInBounds_toArray, List.set_cons_zero, List.set_cons_succ])
          (refine take_on 1 (some 41) (v := ?_) rfl rfl (by kernel_rfl) (by kernel_rfl) (by kernel_rfl) (fun _ _ _ h => h) (by rfl) (by assumption) ?_ ?_; rotate_left; · (intro w hSw; skip; go_simp; (try with_reducible rfl)))
          (try simp only [Act.put, List.setIfInBounds_toArray, List.set_cons_zero, List.set_cons_succ])
          (refine take_on 2 (some 42) (v := ?_) rfl rfl (by kernel_rfl) (by kernel_rfl) (by kernel_rfl) (fun _ _ _ h => h) (by rfl) (by assumption) ?_ ?_; rotate_left; · (intro w hSw; have t0 := hSw.cell 0; have t1 := hSw.cell 1; simp only [List.getElem?_toArray, List.getElem?_cons_zero, List.getElem?_cons_succ] at t0 t1; go_simp; (try with_reducible rfl)))
          (try simp only [Act.put, List.setIfInBounds_toArray, List.set_cons_zero, List.set_cons_succ])
          (refine take_on 3 (some 43) (v := ?_) rfl rfl (by kernel_rfl) (by kernel_rfl) (by kernel_rfl) (fun _ _ _ h => h) (by rfl) (by assumption) ?_ ?_; rotate_left; · (intro w hSw; skip; go_simp; (try with_reducible rfl)))
          (try simp only [Act.put, List.setIfInBounds_toArray, List.set_cons_zero, List.set_cons_succ])
          (refine take_on 4 (some 44) (v := ?_) rfl rfl (by kernel_rfl) (by kernel_rfl) (by kernel_rfl) (fun _ _ _ h => h) (by rfl) (by assumption) ?_ ?_; rotate_left; · (intro w hSw; have t0 := hSw.cell 0; have t1 := hSw.cell 1; simp only [List.getElem?_toArray, List.getElem?_cons_zero, List.getElem?_cons_succ] at t0 t1; go_simp; (try with_reducible rfl)))
          (try simp only [Act.put, List.setIfInBounds_toArray, List.set_cons_zero, List.set_cons_succ])
          (refine take_on 5 (some 45) (v := ?_) rfl rfl (by kernel_rfl) (by kernel_rfl) (by kernel_rfl) (fun _ _ _ h => h) (by rfl) (by assumption) ?_ ?_; rotate_left; · (intro w hSw; skip; go_simp; (try with_reducible rfl)))
          (try simp only [Act.put, List.setIfInBounds_toArray, List.set_cons_zero, List.set_cons_succ])
          (refine take_on 6 (some 46) (v := ?_) rfl rfl (by kernel_rfl) (by kernel_rfl) (by kernel_rfl) (fun _ _ _ h => h) (by rfl) (by assumption) ?_ ?_; rotate_left; · (intro w hSw; skip; go_simp; (try with_reducible rfl)))
          (try simp only [Act.put, List.setIfInBounds_toArray, List.set_cons_zero, List.set_cons_succ])
          (refine take_on 7 (some 47) (v := ?_) rfl rfl (by kernel_rfl) (by kernel_rfl) (by kernel_rfl) (fun _ _ _ h => h) (by rfl) (by assumption) ?_ ?_; rotate_left; · (intro w hSw; skip; go_simp; (try with_reducible rfl)))
          (try simp only [Act.put, List.setIfInBounds_toArray, List.set_cons_zero, List.set_cons_succ])
          (refine take_off 8 (some 48) rfl rfl (by kernel_rfl) (by kernel_rfl) (by kernel_rfl) (fun _ _ _ h => h) (by rfl) (by assumption) ?_)
          (try simp only [Act.put, List.setIfInBounds_toArray, List.set_cons_zero, List.set_cons_succ])
          (refine take_on 9 (some 49) (v := ?_) rfl rfl (by kernel_rfl) (by kernel_rfl) (by kernel_rfl) (fun _ _ _ h => h) (by rfl) (by assumption) ?_ ?_; rotate_left; · (intro w hSw; skip; go_simp; (try with_reducible rfl)))
          (try simp only [Act.put, List.setIfInBounds_toArray, List.set_cons_zero, List.set_cons_succ])
          refine wpAnyH_ready (rs := [10]) (by kernel_rfl) (by simp) ?_; refine AllReadyH.cons (o := _) rfl (fun K hK => ?_) AllReadyH.nil
          go_simp
          (go_at_call 40; refine (hUs false _).mono ?_; rintro e w3 ⟨rfl, rfl⟩)
          refine hK.out _ _ (by (try dsimp only); exact hat) (fun hHeld => ?_)
          clear hK K
          (try simp only [Act.put, List.setIfInBounds_toArray, List.set_cons_zero, List.set_cons_succ])
          refine wpAnyH_ready (rs := [11]) (by kernel_rfl) (by simp) ?_; refine AllReadyH.cons (o := _) rfl (fun K hK => ?_) AllReadyH.nil
          go_simp
          (go_at_call 21; refine (gu_set q S p L h b n Wk g i _ true _ _ (gua.self (Chg.refl [] w2).drew) hh rfl).mono ?_; rintro e w4 ⟨rfl, k4, gu4⟩)
          refine hK.out _ _ (by (try dsimp only); exact (Blk.drew hat).chg_ k4 (by rw [List.mem_singleton]; omega)) (fun hHeld => ?_)
          clear hK K
          (try simp only [Act.put, List.setIfInBounds_toArray, List.set_cons_zero, List.set_cons_succ])
          refine wpAnyH_done (by kernel_rfl) ?_ _
          refine NoPanic.normal ?_
          go_wp2_with fail
          go_roundw
          case rel => exact ⟨k + 1, by omega, by go_num, (hc.trans hca (by simp)).trans (Chg.trans (Chg.drew (Chg.refl [b] w2)) k4 (by simp)) (by simp), by rw [HST.out]; exact gu4⟩
          case measure => simp [intOf]; omega
      · obtain rfl : k = ats.length := by omega
        have HF := Lib.hid HMP
        clear hs1 hP1
        go_wp2_with fail
        go_ret
        exact ⟨rfl, hcw, by rw [HMP.out]; simpa using guk⟩

end Go.Proofs.YtdfmlodmaipnkaaGreatDoor
