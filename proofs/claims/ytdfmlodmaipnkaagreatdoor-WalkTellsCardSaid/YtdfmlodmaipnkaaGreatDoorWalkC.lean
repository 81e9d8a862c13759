/-
  The contract of package walk: an entry that is read.
-/
import Derived.Test.YtdfmlodmaipnkaaGreatDoorWalkB
import Derived.Test.YtdfmlodmaipnkaaGreatDoorWalkQ
namespace Go.Proofs.YtdfmlodmaipnkaaGreatDoor
open Go.RowKit Go.Maps

theorem rd_word {n : Nat} {W L : List Int} (hW : WdW W) {g i : Int} (h : hasG n L g i = true) : rdG n W L g i = some (getG n W L g i).toNat ∧ getG n W L g i = ((getG n W L g i).toNat : Int) ∧ (getG n W L g i).toNat < 18446744073709551616 :=
  ⟨rdG_of h, (hW.getN n L g i).1.symm, (hW.getN n L g i).2⟩
theorem gu_get (q : Nat) (S : List Nat) (p : Nat) (L : List Int) (h b n : Nat) (W : List Int) (f i : Int) (x : Int) (t : Bool) (w : World) (g : GuIn w q S p L h b n W) (hx : getG n W L f i = x) (ht : hasG n L f i = t) :
    Calls Tryz.prog 17 #[.pointer (some ⟨q, 0, none⟩), .int .i64 f, .int .i64 i] w fun e w' => e = .returned (.tuple #[.int .u64 x, .bool t]) ∧ w = w' := hx ▸ ht ▸ GuGet_at q S p L h b n W f i w g
theorem gu_set (q : Nat) (S : List Nat) (p : Nat) (L : List Int) (h b n : Nat) (W : List Int) (f i v : Int) (t : Bool) (W' : List Int) (w : World) (g : GuIn w q S p L h b n W) (ht : hasG n L f i = t) (hW : setG n W L f i v = W') :
    Calls Tryz.prog 21 #[.pointer (some ⟨q, 0, none⟩), .int .i64 f, .int .i64 i, .int .u64 v] w fun e w' => e = .returned (.bool t) ∧ Chg [b] w w' ∧ GuIn w' q S p L h b n W' := ht ▸ hW ▸ GuSet_at q S p L h b n W f i v w g
def zcs : Array Value := #[.int .i64 0, .int .i64 0, .int .i64 0, .bool false, .bool false, .bool false, .bool false, .bool false, .bool false, .bool false, .bool false, .int .i64 0]
theorem bad_cs (t : Nat) : (It.bad t).cs = zcs := rfl

set_option maxRecDepth 100000 in
set_option maxHeartbeats 20000000 in
theorem read_acc (q : Nat) (S : List Nat) (p : Nat) (L : List Int) (h b n : Nat) (W : List Int) (page kind : Int) (user : Bool) (g lv : Int) (w : World) (gu : GuIn w q S p L h b n W) (hW : WdW W) (hl : 1 ≤ lv ∧ lv ≤ 3) :
    Calls Tryz.prog 82 #[.agg (accV q page kind user), .int .i64 g, .int .i64 lv] w fun e w' => e = .returned (.tuple #[.agg (stepW (rdG n W L) page g lv).cs, errO kind user (stepW (rdG n W L) page g lv).err]) ∧ Chg [] w w' := by
  have hacc0 := Blk.new w 68 #[.pointer (some ⟨q, 0, none⟩), .int .i64 page, .int .i64 kind, .bool user]
  have hres := Blk.new (w.alloc (.cells #[.pointer (some ⟨q, 0, none⟩), .int .i64 page, .int .i64 kind, .bool user] 68)) 129 zcs
  have hc0 := ((Chg.refl [] w).alloc (.cells #[.pointer (some ⟨q, 0, none⟩), .int .i64 page, .int .i64 kind, .bool user] 68)).alloc (.cells zcs 129)
  have hacc := hacc0.alloc (.cells zcs 129)
  have C1 := fun w0 => (Idx_any page lv w0 (by omega) (by omega)).mono fun e w' (h : _ ∧ Dr w0 w') => (⟨h.1, h.2.chg⟩ : _ ∧ Chg [] w0 w')
  have hs : stepW (rdG n W L) page g lv = stepW (rdG n W L) page g lv := rfl
  clear hacc0
  conv at hs => rhs; unfold stepW
  generalize idxI page lv = ix at *
  unfold zcs at *
  unfold accV
  go_enter Tryz.func82, Tryz.ntmps82
  go_wp2_with fail
  rw [World.size_alloc] at hres
  generalize (w.alloc (.cells #[.pointer (some ⟨q, 0, none⟩), .int .i64 page, .int .i64 kind, .bool user] 68)).alloc (.cells #[.int .i64 0, .int .i64 0, .int .i64 0, .bool false, .bool false, .bool false, .bool false, .bool false, .bool false, .bool false, .bool false, .int .i64 0] 129) = w0 at *
  generalize hg1 : w.heap.size + 1 = g1 at *
  generalize hg0 : w.heap.size = g0 at *
  have hlt1 := hres.lt
  refine (C1 _).mono ?_; rintro e w1 ⟨rfl, hc1⟩
  have hA1 := hacc.chg_ hc1 (by simp)
  have hR1 := hres.chg_ hc1 (by simp)
  have hcA := hc0.trans hc1 (by simp)
  have hgu1 := gu.self hcA
  have hT1 := Blk.new w1 51 #[.int .i64 g, .int .i64 ix]
  have hA2 := hA1.alloc (.cells #[.int .i64 g, .int .i64 ix] 51)
  have hR2 := hR1.alloc (.cells #[.int .i64 g, .int .i64 ix] 51)
  have hgu2 := hgu1.self ((Chg.refl [] w1).alloc (.cells #[.int .i64 g, .int .i64 ix] 51))
  have hcB := hcA.alloc (.cells #[.int .i64 g, .int .i64 ix] 51)
  clear hc0 hc1 hacc hres hA1 hR1 hgu1 hcA C1
  have a0 := hA2.cell 0; have a1 := hA2.cell 1; have a2 := hA2.cell 2; have a3 := hA2.cell 3
  have t0 := hT1.cell 0; have t1 := hT1.cell 1
  simp only [List.getElem?_toArray, List.getElem?_cons_zero, List.getElem?_cons_succ] at a0 a1 a2 a3 t0 t1
  have hlt2 := hA2.lt
  have hlt3 := hR2.lt
  generalize hgt : w1.heap.size = gt at *
  generalize hw2 : w1.alloc (.cells #[.int .i64 g, .int .i64 ix] 51) = w2 at *
  by_cases hh : hasG n L g ix = true
  · obtain ⟨r1, r2, r3⟩ := rd_word hW hh
    rw [r1] at hs
    simp only at hs
    generalize hv : (getG n W L g ix).toNat = v at *
    have hget := gu_get q S p L h b n W g ix v true _ hgu2 r2 hh
    have HS := Lib.hid hs
    clear hs r1 r2 hh hv hgu2 gu hW
    go_wp2_with fail
    refine hget.mono ?_; rintro e w3 ⟨rfl, rfl⟩
    go_wp2_with fail
    have hsz2 := (Chg.refl [] w2).drew
    have hcs : (getE v).cs = #[.bool (getE v).p, .bool (getE v).w, .bool (getE v).u, .bool (getE v).a, .bool (getE v).d, .bool (getE v).s, .bool (getE v).n, .bool (getE v).bad, .int .i64 (getE v).f] := rfl
    have hBad : ∀ w0 : World, Calls Tryz.prog 85 #[.agg #[.int .i64 lv, .int .i64 g, .int .i64 ix, .bool (getE v).p, .bool (getE v).w, .bool (getE v).u, .bool (getE v).a, .bool (getE v).d, .bool (getE v).s, .bool (getE v).n, .bool (getE v).bad, .int .i64 (getE v).f]] w0 fun e w' => e = .returned (.bool (badE (getE v) lv)) ∧ Chg [] w0 w' := fun w0 => bad_any ⟨lv, g, ix, getE v, none⟩ w0
    have hF1 : ∀ w0 : World, Calls Tryz.prog 52 #[.agg #[.pointer (some ⟨q, 0, none⟩), .int .i64 page, .int .i64 kind, .bool user], .bool false, .bool false] w0 fun e w' => e = .returned (errO kind user (some 1)) ∧ Chg [] w0 w' := fun w0 => fault_any q page kind user false false 1 w0 rfl
    have hF2 : ∀ w0 : World, Calls Tryz.prog 52 #[.agg #[.pointer (some ⟨q, 0, none⟩), .int .i64 page, .int .i64 kind, .bool user], .bool true, .bool true] w0 fun e w' => e = .returned (errO kind user (some 2)) ∧ Chg [] w0 w' := fun w0 => fault_any q page kind user true true 2 w0 rfl
    have HR : Hid (((getE v).p = false → Value.tuple #[.agg (stepW (rdG n W L) page g lv).cs, errO kind user (stepW (rdG n W L) page g lv).err] = .tuple #[.agg zcs, errO kind user (some 1)]) ∧ ((getE v).p = true → badE (getE v) lv = true → Value.tuple #[.agg (stepW (rdG n W L) page g lv).cs, errO kind user (stepW (rdG n W L) page g lv).err] = .tuple #[.agg zcs, errO kind user (some 2)]) ∧
        ((getE v).p = true → badE (getE v) lv = false → Value.tuple #[.agg (stepW (rdG n W L) page g lv).cs, errO kind user (stepW (rdG n W L) page g lv).err] = .tuple #[.agg #[.int .i64 lv, .int .i64 g, .int .i64 ix, .bool (getE v).p, .bool (getE v).w, .bool (getE v).u, .bool (getE v).a, .bool (getE v).d, .bool (getE v).s, .bool (getE v).n, .bool (getE v).bad, .int .i64 (getE v).f], .nilIface])) := Lib.hid (by
      rw [HS.out]
      refine ⟨fun h => ?_, fun h k => ?_, fun h k => ?_⟩
      · rw [h]; rfl
      · rw [if_pos h, if_pos k]; rfl
      · rw [if_pos h, k]; rfl)
    have hGet : ∀ w0 : World, Calls Tryz.prog 61 #[.int .u64 v] w0 fun e w' => e = .returned (.agg (getE v).cs) ∧ Chg [] w0 w' := fun w0 => Get_any v w0 r3
    rw [hcs] at hGet
    clear hcs HS
    generalize badE (getE v) lv = tb at *
    generalize (getE v).p = ep at *
    generalize (getE v).w = ew at *
    generalize (getE v).u = eu at *
    generalize (getE v).a = ea at *
    generalize (getE v).d = ed at *
    generalize (getE v).s = es at *
    generalize (getE v).n = en at *
    generalize (getE v).bad = eb at *
    generalize (getE v).f = ef at *
    generalize errO kind user (some 1) = f1 at *
    generalize errO kind user (some 2) = f2 at *
    -- by gen_walkread.py
    have hgtne : gt ≠ w2.heap.size := by have := hT1.lt; omega
    refine wp_region_noPanic ?_
    refine wp_region_held_drew (S := (fun w' => w'.cell? ⟨gt, 0, none⟩ = some (.int .i64 g) ∧ w'.cell? ⟨gt, 1, none⟩ = some (.int .i64 ix))) (by kernel_rfl) ?_ (fun hHeld => ?_)
    · (first | exact ⟨t0, t1⟩ | exact ⟨d0, d1⟩ | go_keep)
    (refine take_on 0 (some 33) (v := ?_) rfl rfl (by kernel_rfl) (by kernel_rfl) (by kernel_rfl) (fun _ _ _ h => h) (by rfl) (by assumption) ?_ ?_; rotate_left; · (intro w hSw; (try dsimp only at hSw); go_simp; (try with_reducible rfl)))
    (try simp only [Act.put, List.setIfInBounds_toArray, List.set_cons_zero, List.set_cons_succ])
    (refine take_on 1 (some 34) (v := ?_) rfl rfl (by kernel_rfl) (by kernel_rfl) (by kernel_rfl) (fun _ _ _ h => h) (by rfl) (by assumption) ?_ ?_; rotate_left; · (intro w hSw; (try dsimp only at hSw); go_simp; (try with_reducible rfl)))
    (try simp only [Act.put, List.setIfInBounds_toArray, List.set_cons_zero, List.set_cons_succ])
    (refine take_on 2 (some 35) (v := ?_) rfl rfl (by kernel_rfl) (by kernel_rfl) (by kernel_rfl) (fun _ _ _ h => h) (by rfl) (by assumption) ?_ ?_; rotate_left; · (intro w hSw; (try dsimp only at hSw); go_simp; (try with_reducible rfl)))
    (try simp only [Act.put, List.setIfInBounds_toArray, List.set_cons_zero, List.set_cons_succ])
    refine wpAnyH_ready (rs := [3, 5]) (by kernel_rfl) (by simp) ?_; refine AllReadyH.cons (o := _) rfl (fun K hK => ?_) (AllReadyH.cons (o := _) rfl (fun K hK => ?_) AllReadyH.nil)
    · go_simp
      (go_at_call 61; refine (hGet _).mono ?_; rintro e w5 ⟨rfl, hc5⟩; have hc25 : Chg [] w2 w5 := Chg.trans hsz2 hc5 (by simp); have hTT := hT1.chg_ hc25 (by simp); have d0 := hTT.cell 0; have d1 := hTT.cell 1)
      refine hK.out _ _ (by (try dsimp only); (first | exact ⟨t0, t1⟩ | exact ⟨d0, d1⟩ | go_keep)) (fun hHeld => ?_)
      clear hK K
      (try simp only [Act.put, List.setIfInBounds_toArray, List.set_cons_zero, List.set_cons_succ])
      (refine take_on 4 (some 37) (v := ?_) rfl rfl (by kernel_rfl) (by kernel_rfl) (by kernel_rfl) (fun _ _ _ h => h) (by rfl) (by assumption) ?_ ?_; rotate_left; · (intro w hSw; (try dsimp only at hSw); go_simp; (try with_reducible rfl)))
      (try simp only [Act.put, List.setIfInBounds_toArray, List.set_cons_zero, List.set_cons_succ])
      refine wpAnyH_ready (rs := [5]) (by kernel_rfl) (by simp) ?_; refine AllReadyH.cons (o := _) rfl (fun K hK => ?_) AllReadyH.nil
      go_simp
      skip
      refine hK.out _ _ (by (try dsimp only); (first | exact ⟨t0, t1⟩ | exact ⟨d0, d1⟩ | go_keep)) (fun hHeld => ?_)
      clear hK K
      (try simp only [Act.put, List.setIfInBounds_toArray, List.set_cons_zero, List.set_cons_succ])
      refine wpAnyH_ready (rs := [6]) (by kernel_rfl) (by simp) ?_; refine AllReadyH.cons (o := _) rfl (fun K hK => ?_) AllReadyH.nil
      go_simp
      skip
      refine hK.out _ _ (by (try dsimp only); (first | exact ⟨t0, t1⟩ | exact ⟨d0, d1⟩ | go_keep)) (fun hHeld => ?_)
      clear hK K
      (try simp only [Act.put, List.setIfInBounds_toArray, List.set_cons_zero, List.set_cons_succ])
      refine wpAnyH_done (by kernel_rfl) ?_ _
      refine NoPanic.normal ?_
      have hEf := Blk.new w5 129 #[.int .i64 lv, .int .i64 g, .int .i64 ix, .bool ep, .bool ew, .bool eu, .bool ea, .bool ed, .bool es, .bool en, .bool eb, .int .i64 ef]
      have hcf := hc25.alloc (.cells #[.int .i64 lv, .int .i64 g, .int .i64 ix, .bool ep, .bool ew, .bool eu, .bool ea, .bool ed, .bool es, .bool en, .bool eb, .int .i64 ef] 129)
      have hge : w5.heap.size ≠ g1 := by have := hc25.size; omega
      have hge0 : w5.heap.size ≠ g0 := by have := hc25.size; omega
      generalize w5.alloc (.cells #[.int .i64 lv, .int .i64 g, .int .i64 ix, .bool ep, .bool ew, .bool eu, .bool ea, .bool ed, .bool es, .bool en, .bool eb, .int .i64 ef] 129) = wf at *
      clear hTT hc5 hc25 d0 d1
      generalize w5.heap.size = ge at *
      have hRf := hR2.chg_ hcf (by simp)
      have hAf := hA2.chg_ hcf (by simp)
      have hcw := hcB.trans hcf (by simp)
      clear hcf hR2 hA2 hcB hHeld
      have a0 := hAf.cell 0; have a1 := hAf.cell 1; have a2 := hAf.cell 2; have a3 := hAf.cell 3
      simp only [List.getElem?_toArray, List.getElem?_cons_zero, List.getElem?_cons_succ] at a0 a1 a2 a3
      obtain ⟨er0, er1, er2, er3, er4, er5, er6, er7, er8, er9, er10, er11, eq0, eq1, eq2, eq3, eq4, eq5, eq6, eq7, eq8, eq9, eq10, eq11⟩ := blk12 hEf
      obtain ⟨r0, r1, r2, r3, r4, r5, r6, r7, r8, r9, r10, r11, q0, q1, q2, q3, q4, q5, q6, q7, q8, q9, q10, q11⟩ := blk12 hRf
      cases ep with
      | false =>
        go_wp2_with fail
        refine (hF1 _).mono ?_; rintro e w6 ⟨rfl, hc6⟩
        have hR6 := hRf.chg_ hc6 (by simp)
        obtain ⟨r0, r1, r2, r3, r4, r5, r6, r7, r8, r9, r10, r11, q0, q1, q2, q3, q4, q5, q6, q7, q8, q9, q10, q11⟩ := blk12 hR6
        go_wp2_with fail
        refine bodyPost_ret (cell_tmp_ret rfl (set12 hR6) rfl Tryz.underlying129 rfl (by kernel_rfl)) rfl ?_
        exact ⟨congrArg Ending.returned (HR.out.1 (by simp)).symm, chg12 (hcw.trans hc6 (by simp)) (by omega)⟩
      | true =>
        go_wp2_with fail
        refine (hBad _).mono ?_; rintro e w6 ⟨rfl, hc6⟩
        have hR6 := hRf.chg_ hc6 (by simp)
        have hE6 := hEf.chg_ hc6 (by simp)
        have hA6 := hAf.chg_ hc6 (by simp)
        have hcw6 := hcw.trans hc6 (by simp)
        clear r0 r1 r2 r3 r4 r5 r6 r7 r8 r9 r10 r11 q0 q1 q2 q3 q4 q5 q6 q7 q8 q9 q10 q11 er0 er1 er2 er3 er4 er5 er6 er7 er8 er9 er10 er11 eq0 eq1 eq2 eq3 eq4 eq5 eq6 eq7 eq8 eq9 eq10 eq11 a0 a1 a2 a3
        have a0 := hA6.cell 0; have a1 := hA6.cell 1; have a2 := hA6.cell 2; have a3 := hA6.cell 3
        simp only [List.getElem?_toArray, List.getElem?_cons_zero, List.getElem?_cons_succ] at a0 a1 a2 a3
        cases tb with
        | true =>
          go_wp2_with fail
          refine (hF2 _).mono ?_; rintro e w7 ⟨rfl, hc7⟩
          have hR7 := hR6.chg_ hc7 (by simp)
          obtain ⟨r0, r1, r2, r3, r4, r5, r6, r7, r8, r9, r10, r11, q0, q1, q2, q3, q4, q5, q6, q7, q8, q9, q10, q11⟩ := blk12 hR7
          go_wp2_with fail
          refine bodyPost_ret (cell_tmp_ret rfl (set12 hR7) rfl Tryz.underlying129 rfl (by kernel_rfl)) rfl ?_
          exact ⟨congrArg Ending.returned (HR.out.2.1 (by simp) (by simp)).symm, chg12 (hcw6.trans hc7 (by simp)) (by omega)⟩
        | false =>
          obtain ⟨er0, er1, er2, er3, er4, er5, er6, er7, er8, er9, er10, er11, eq0, eq1, eq2, eq3, eq4, eq5, eq6, eq7, eq8, eq9, eq10, eq11⟩ := blk12 hE6
          obtain ⟨r0, r1, r2, r3, r4, r5, r6, r7, r8, r9, r10, r11, q0, q1, q2, q3, q4, q5, q6, q7, q8, q9, q10, q11⟩ := blk12 hR6
          go_wp2_with fail
          refine bodyPost_ret (cell_tmp_ret rfl (set12 hR6) rfl Tryz.underlying129 rfl (by kernel_rfl)) rfl ?_
          exact ⟨congrArg Ending.returned (HR.out.2.2 (by simp) (by simp)).symm, chg12 hcw6 (by omega)⟩
    · have hszB : Chg [] w2 ((World.drew w2).alloc (.cells #[.int .i64 0, .int .i64 0, .int .i64 0, .bool false, .bool false, .bool false, .bool false, .bool false, .bool false, .bool false, .bool false, .int .i64 0] 129)) := Chg.alloc hsz2 _
      have hB1 : Blk ((World.drew w2).alloc (.cells #[.int .i64 0, .int .i64 0, .int .i64 0, .bool false, .bool false, .bool false, .bool false, .bool false, .bool false, .bool false, .bool false, .int .i64 0] 129)) w2.heap.size 129 #[.int .i64 0, .int .i64 0, .int .i64 0, .bool false, .bool false, .bool false, .bool false, .bool false, .bool false, .bool false, .bool false, .int .i64 0] := Blk.new (World.drew w2) _ _
      go_simp
      skip
      refine hK.out _ _ (by (try dsimp only); (first | exact ⟨t0, t1⟩ | exact ⟨d0, d1⟩ | go_keep)) (fun hHeld => ?_)
      clear hK K
      (try simp only [Act.put, List.setIfInBounds_toArray, List.set_cons_zero, List.set_cons_succ])
      refine wpAnyH_ready (rs := [3]) (by kernel_rfl) (by simp) ?_; refine AllReadyH.cons (o := _) rfl (fun K hK => ?_) AllReadyH.nil
      go_simp
      (go_at_call 61; refine (hGet _).mono ?_; rintro e w5 ⟨rfl, hc5⟩; have hc25 : Chg [] w2 w5 := Chg.trans hszB hc5 (by simp); have hTT := hT1.chg_ hc25 (by simp); have d0 := hTT.cell 0; have d1 := hTT.cell 1; have hEE := Blk.chg_ hB1 hc5 (by simp); obtain ⟨er0, er1, er2, er3, er4, er5, er6, er7, er8, er9, er10, er11, eq0, eq1, eq2, eq3, eq4, eq5, eq6, eq7, eq8, eq9, eq10, eq11⟩ := blk12 hEE)
      refine hK.out _ _ (by (try dsimp only); (first | exact ⟨t0, t1⟩ | exact ⟨d0, d1⟩ | go_keep)) (fun hHeld => ?_)
      clear hK K
      (try simp only [Act.put, List.setIfInBounds_toArray, List.set_cons_zero, List.set_cons_succ])
      (refine take_on 4 (some 37) (v := ?_) rfl rfl (by kernel_rfl) (by kernel_rfl) (by kernel_rfl) (fun _ _ _ h => h) (by rfl) (by assumption) ?_ ?_; rotate_left; · (intro w hSw; (try dsimp only at hSw); go_simp; (try with_reducible rfl)))
      (try simp only [Act.put, List.setIfInBounds_toArray, List.set_cons_zero, List.set_cons_succ])
      refine wpAnyH_ready (rs := [6]) (by kernel_rfl) (by simp) ?_; refine AllReadyH.cons (o := _) rfl (fun K hK => ?_) AllReadyH.nil
      go_simp
      skip
      refine hK.out _ _ (by (try dsimp only); (have hTf := far12 (y0 := .int .i64 lv) (y1 := .int .i64 g) (y2 := .int .i64 ix) (y3 := .bool ep) (y4 := .bool ew) (y5 := .bool eu) (y6 := .bool ea) (y7 := .bool ed) (y8 := .bool es) (y9 := .bool en) (y10 := .bool eb) (y11 := .int .i64 ef) hTT hgtne; exact ⟨hTf.cell 0, hTf.cell 1⟩)) (fun hHeld => ?_)
      clear hK K
      (try simp only [Act.put, List.setIfInBounds_toArray, List.set_cons_zero, List.set_cons_succ])
      refine wpAnyH_done (by kernel_rfl) ?_ _
      refine NoPanic.normal ?_
      have hEf := set12 (y0 := .int .i64 lv) (y1 := .int .i64 g) (y2 := .int .i64 ix) (y3 := .bool ep) (y4 := .bool ew) (y5 := .bool eu) (y6 := .bool ea) (y7 := .bool ed) (y8 := .bool es) (y9 := .bool en) (y10 := .bool eb) (y11 := .int .i64 ef) hEE
      have hcf := chg12 (y0 := .int .i64 lv) (y1 := .int .i64 g) (y2 := .int .i64 ix) (y3 := .bool ep) (y4 := .bool ew) (y5 := .bool eu) (y6 := .bool ea) (y7 := .bool ed) (y8 := .bool es) (y9 := .bool en) (y10 := .bool eb) (y11 := .int .i64 ef) hc25 (g := w2.heap.size) (by omega)
      have hge : w2.heap.size ≠ g1 := by omega
      have hge0 : w2.heap.size ≠ g0 := by omega
      clear er0 er1 er2 er3 er4 er5 er6 er7 er8 er9 er10 er11 eq0 eq1 eq2 eq3 eq4 eq5 eq6 eq7 eq8 eq9 eq10 eq11 hTT hEE hB1 hszB hc5 hc25 d0 d1
      generalize ((((((((((((w5.setCell ⟨w2.heap.size, 0, none⟩ (.int .i64 lv)).setCell ⟨w2.heap.size, 1, none⟩ (.int .i64 g)).setCell ⟨w2.heap.size, 2, none⟩ (.int .i64 ix)).setCell ⟨w2.heap.size, 3, none⟩ (.bool ep)).setCell ⟨w2.heap.size, 4, none⟩ (.bool ew)).setCell ⟨w2.heap.size, 5, none⟩ (.bool eu)).setCell ⟨w2.heap.size, 6, none⟩ (.bool ea)).setCell ⟨w2.heap.size, 7, none⟩ (.bool ed)).setCell ⟨w2.heap.size, 8, none⟩ (.bool es)).setCell ⟨w2.heap.size, 9, none⟩ (.bool en)).setCell ⟨w2.heap.size, 10, none⟩ (.bool eb)).setCell ⟨w2.heap.size, 11, none⟩ (.int .i64 ef)) = wf at *
      generalize w2.heap.size = ge at *
      have hRf := hR2.chg_ hcf (by simp)
      have hAf := hA2.chg_ hcf (by simp)
      have hcw := hcB.trans hcf (by simp)
      clear hcf hR2 hA2 hcB hHeld
      have a0 := hAf.cell 0; have a1 := hAf.cell 1; have a2 := hAf.cell 2; have a3 := hAf.cell 3
      simp only [List.getElem?_toArray, List.getElem?_cons_zero, List.getElem?_cons_succ] at a0 a1 a2 a3
      obtain ⟨er0, er1, er2, er3, er4, er5, er6, er7, er8, er9, er10, er11, eq0, eq1, eq2, eq3, eq4, eq5, eq6, eq7, eq8, eq9, eq10, eq11⟩ := blk12 hEf
      obtain ⟨r0, r1, r2, r3, r4, r5, r6, r7, r8, r9, r10, r11, q0, q1, q2, q3, q4, q5, q6, q7, q8, q9, q10, q11⟩ := blk12 hRf
      cases ep with
      | false =>
        go_wp2_with fail
        refine (hF1 _).mono ?_; rintro e w6 ⟨rfl, hc6⟩
        have hR6 := hRf.chg_ hc6 (by simp)
        obtain ⟨r0, r1, r2, r3, r4, r5, r6, r7, r8, r9, r10, r11, q0, q1, q2, q3, q4, q5, q6, q7, q8, q9, q10, q11⟩ := blk12 hR6
        go_wp2_with fail
        refine bodyPost_ret (cell_tmp_ret rfl (set12 hR6) rfl Tryz.underlying129 rfl (by kernel_rfl)) rfl ?_
        exact ⟨congrArg Ending.returned (HR.out.1 (by simp)).symm, chg12 (hcw.trans hc6 (by simp)) (by omega)⟩
      | true =>
        go_wp2_with fail
        refine (hBad _).mono ?_; rintro e w6 ⟨rfl, hc6⟩
        have hR6 := hRf.chg_ hc6 (by simp)
        have hE6 := hEf.chg_ hc6 (by simp)
        have hA6 := hAf.chg_ hc6 (by simp)
        have hcw6 := hcw.trans hc6 (by simp)
        clear r0 r1 r2 r3 r4 r5 r6 r7 r8 r9 r10 r11 q0 q1 q2 q3 q4 q5 q6 q7 q8 q9 q10 q11 er0 er1 er2 er3 er4 er5 er6 er7 er8 er9 er10 er11 eq0 eq1 eq2 eq3 eq4 eq5 eq6 eq7 eq8 eq9 eq10 eq11 a0 a1 a2 a3
        have a0 := hA6.cell 0; have a1 := hA6.cell 1; have a2 := hA6.cell 2; have a3 := hA6.cell 3
        simp only [List.getElem?_toArray, List.getElem?_cons_zero, List.getElem?_cons_succ] at a0 a1 a2 a3
        cases tb with
        | true =>
          go_wp2_with fail
          refine (hF2 _).mono ?_; rintro e w7 ⟨rfl, hc7⟩
          have hR7 := hR6.chg_ hc7 (by simp)
          obtain ⟨r0, r1, r2, r3, r4, r5, r6, r7, r8, r9, r10, r11, q0, q1, q2, q3, q4, q5, q6, q7, q8, q9, q10, q11⟩ := blk12 hR7
          go_wp2_with fail
          refine bodyPost_ret (cell_tmp_ret rfl (set12 hR7) rfl Tryz.underlying129 rfl (by kernel_rfl)) rfl ?_
          exact ⟨congrArg Ending.returned (HR.out.2.1 (by simp) (by simp)).symm, chg12 (hcw6.trans hc7 (by simp)) (by omega)⟩
        | false =>
          obtain ⟨er0, er1, er2, er3, er4, er5, er6, er7, er8, er9, er10, er11, eq0, eq1, eq2, eq3, eq4, eq5, eq6, eq7, eq8, eq9, eq10, eq11⟩ := blk12 hE6
          obtain ⟨r0, r1, r2, r3, r4, r5, r6, r7, r8, r9, r10, r11, q0, q1, q2, q3, q4, q5, q6, q7, q8, q9, q10, q11⟩ := blk12 hR6
          go_wp2_with fail
          refine bodyPost_ret (cell_tmp_ret rfl (set12 hR6) rfl Tryz.underlying129 rfl (by kernel_rfl)) rfl ?_
          exact ⟨congrArg Ending.returned (HR.out.2.2 (by simp) (by simp)).symm, chg12 hcw6 (by omega)⟩
  · have hh' : hasG n L g ix = false := by simpa using hh
    have hx : rdG n W L g ix = none := by unfold rdG; rw [if_neg hh]
    rw [hx] at hs
    simp only at hs
    have HS := Lib.hid hs
    have h0 : getG n W L g ix = 0 := by
      unfold getG hasG at *
      split
      · rename_i hb; rw [hb, Bool.true_and] at hh'; unfold getW; rw [hh']; rfl
      · rfl
    have hget := gu_get q S p L h b n W g ix 0 false _ hgu2 h0 hh'
    clear hs hh' hx hh h0 hgu2 gu hW
    go_wp2_with fail
    obtain ⟨r0, r1, r2, r3, r4, r5, r6, r7, r8, r9, r10, r11, q0, q1, q2, q3, q4, q5, q6, q7, q8, q9, q10, q11⟩ := blk12 hR2
    refine hget.mono ?_; rintro e w3 ⟨rfl, rfl⟩
    go_wp2_with fail
    refine bodyPost_ret (cell_tmp_ret rfl (set12 hR2) rfl Tryz.underlying129 rfl (by kernel_rfl)) rfl ?_
    exact ⟨by rw [HS.out]; rfl, chg12 hcB (by omega)⟩

end Go.Proofs.YtdfmlodmaipnkaaGreatDoor
