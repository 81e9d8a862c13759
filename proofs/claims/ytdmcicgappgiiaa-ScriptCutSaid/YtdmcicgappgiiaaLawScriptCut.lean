/-
  The law ScriptCut.
-/
import Derived.Test.YtdmcicgappgiiaaScriptHead
namespace Go.Proofs.Ytdmcicgappgiiaa
open Go.RowKit Go.Shelf

theorem many_eq : ∀ (L : List Sop) (k m : Nat), m ≤ L.length → ((L.take m).flatMap oneS).length ≤ k → (∀ o, L[m]? = some o → k < ((L.take m).flatMap oneS).length + (oneS o).length) → m = manyS L k
  | [], k, m, h, _, _ => by simp at h; subst h; rfl
  | o :: L, k, 0, _, _, h3 => by
    have := h3 o (by simp)
    simp at this
    unfold manyS; rw [if_neg (by omega)]
  | o :: L, k, m + 1, h1, h2, h3 => by
    rw [List.take_succ_cons, List.flatMap_cons, List.length_append] at h2
    simp only [List.length_cons] at h1
    unfold manyS
    rw [if_pos (by omega)]
    have := many_eq L (k - (oneS o).length) m (by omega) (by omega) (fun x hx => by
      have := h3 x (by simpa using hx)
      rw [List.take_succ_cons, List.flatMap_cons, List.length_append] at this
      omega)
    omega
theorem filter_right (l : List Sop) : (l.filter rightS).all rightS = true := by simp
theorem filter_wf {l : List Sop} (h : ∀ o ∈ l, o.Wf) : ∀ o ∈ l.filter rightS, o.Wf := fun o ho => h o (List.mem_filter.1 ho).1
theorem put_oneR {o : Sop} (h : rightS o = true) : putS [o] = oneS o := by unfold putS; rw [if_pos (by simp [h])]; simp
theorem one_at {α : Type} {l : List α} {k : Nat} {x : α} (h : l[k]? = some x) : (l.drop k).take 1 = [x] := by
  have h1 := (List.getElem?_eq_some_iff.1 h).1
  rw [List.drop_eq_getElem_cons h1, (List.getElem?_eq_some_iff.1 h).2]; rfl
theorem take_mem {α : Type} {l : List α} {k : Nat} : ∀ x ∈ l.take k, x ∈ l := fun _ h => List.mem_of_mem_take h
theorem size56 (w : World) : (Go.sizeOf 31).run Try.prog w = .ok 7 w := by kernel_rfl

set_option maxRecDepth 100000 in
set_option maxHeartbeats 8000000 in
theorem ScriptCut_walk (CL : Option Addr) (nl cl : Nat) (l : List Sop) (ct : Int) (w : World) (hL : SlG opE w CL nl l) (hwl : ∀ o ∈ l, o.Wf) (hct : 0 ≤ ct ∧ ct ≤ 65535) :
    Calls Try.prog 5 #[.slice CL nl cl, .int .u16 ct] w fun e w' => e = .returned (.bool true) ∧ Chg [] w w' := by
  have hll := Lib.hid hL.len
  have hle := hL.le
  replace hwl : Hid (∀ o ∈ l, o.Wf) := Lib.hid hwl
  go_enter Try.func5, Try.ntmps5
  go_wp2_with fail
  refine (Schead_any _).mono ?_; rintro e w1 ⟨rfl, k1⟩
  go_wp2_with fail
  go_loopg [6, 7] 200 (fun gg s6 s7 wr => ∃ (i : Nat) (A' : Option Addr) (m' c' : Nat) (M : List Sop), i ≤ nl ∧ i ≤ 200 ∧ 200 - i ≤ gg ∧ s6 = .slice A' m' c' ∧ s7 = .int .i64 (i : Nat) ∧ Aside (m' = M.length) ∧ Aside (M = (l.take i).filter rightS) ∧ Aside (LG opE w1 wr 31 (.slice A' m' c') M))
  case atStart => exact ⟨0, none, 0, 0, [], by omega, by omega, by omega, rfl, rfl, rfl, rfl, LG.none_ w1 _⟩
  case round =>
    obtain ⟨i, A', m', c', M, hi, hi2, hg, rfl, rfl, hm, hM, lg⟩ := hrel
    replace lg := lg.out
    replace hm := hm.out
    replace hm := Lib.hid hm
    have k2 := k1.trans lg.1 (by simp)
    by_cases hlt : i < nl ∧ i < 200
    · obtain ⟨h1, h2⟩ := hlt
      obtain ⟨bl, off, o, rfl, hbl, hx, c0, c1, c2, c3, c4, c5, c6⟩ := SlS.get (hL.new k2) h1
      have hR := fun w9 => ScRight_any o w9
      have hst := take_at hx
      simp only [Sop.ar] at hR
      clear k2
      go_wp2_with fail
      refine (hR _).mono ?_; rintro e w3 ⟨rfl, k3⟩
      clear hR
      have hMl : M.length ≤ 200 := by rw [hM.out]; exact Nat.le_trans (List.length_filter_le _ _) (by simp; omega)
      have e0 := (k3.cell (p := ⟨bl, off + i * 7, none⟩) hbl (by simp)).trans c0
      have e1 := (k3.cell (p := ⟨bl, off + i * 7 + 1, none⟩) hbl (by simp)).trans c1
      have e2 := (k3.cell (p := ⟨bl, off + i * 7 + 2, none⟩) hbl (by simp)).trans c2
      have e3 := (k3.cell (p := ⟨bl, off + i * 7 + 3, none⟩) hbl (by simp)).trans c3
      have e4 := (k3.cell (p := ⟨bl, off + i * 7 + 4, none⟩) hbl (by simp)).trans c4
      have e5 := (k3.cell (p := ⟨bl, off + i * 7 + 5, none⟩) hbl (by simp)).trans c5
      have e6 := (k3.cell (p := ⟨bl, off + i * 7 + 6, none⟩) hbl (by simp)).trans c6
      clear c0 c1 c2 c3 c4 c5 c6 hx
      replace lg := lg.new k3
      cases hro : rightS o with
      | false =>
        have hst2 : Hid ((l.take (i + 1)).filter rightS = M) := Lib.hid (by rw [hst, List.filter_append, hM.out]; simp [hro])
        clear hst hro hM
        go_wp2_with fail
        go_roundg (200 - (i + 1))
        case measure => omega
        case rel => exact ⟨i + 1, A', m', c', M, by omega, by omega, by omega, rfl, by go_num, hm.out, hst2.out.symm, lg⟩
      | true =>
        have hst2 : Hid ((l.take (i + 1)).filter rightS = M ++ [o]) := Lib.hid (by rw [hst, List.filter_append, hM.out]; simp [hro])
        clear hst hro hM
        have lg2 := lg.new ((Chg.refl [] w3).alloc (.cells #[.int .i64 o.what, .bool o.user, .int .u64 o.a, .int .u64 o.v, .int .i64 o.g, .int .i64 o.i, .int .i64 o.n] 31))
        go_wp2_with (at_builtin; refine wpList_append_G rfl _ _ 22 rfl 31 (.agg #[.int .i64 0, .bool false, .int .u64 0, .int .u64 0, .int .i64 0, .int .i64 0, .int .i64 0]) 56 Try.underlying22 (by kernel_rfl) (by kernel_rfl) (.slice A' m' c') (M) rfl (lg2.2.1) (some ⟨w3.heap.size, 0, none⟩) 1 1 ([o]) rfl (OwnG.src (E := opE) (OwnG.lit (L := [o]) (Blk.new w3 31 #[.int .i64 o.what, .bool o.user, .int .u64 o.a, .int .u64 o.v, .int .i64 o.g, .int .i64 o.i, .int .i64 o.n]) (by simp))) (rfl) (by omega) ?_; intro v5 w5 ho5 hc5 hv5; obtain ⟨A5, c5, rfl, _, _⟩ := ho5.form; have lg5 := lg2.app ho5 hc5 hv5; clear lg2 ho5 hc5 hv5)
        go_roundg (200 - (i + 1))
        case measure => omega
        case rel => exact ⟨i + 1, A5, M.length + 1, c5, M ++ [o], by omega, by omega, by omega, rfl, by go_num, (by show M.length + 1 = _; simp), hst2.out.symm, lg5.len_ (by simp)⟩
    · have hMl : M.length ≤ 200 := by rw [hM.out]; exact Nat.le_trans (List.length_filter_le _ _) (by simp; omega)
      have hMr : M.all rightS = true := by rw [hM.out]; exact filter_right _
      have hMw : ∀ o ∈ M, o.Wf := by rw [hM.out]; exact filter_wf (fun o ho => hwl.out o (take_mem o ho))
      clear hM
      have hpl := flat_le M
      have hpr := flat_rng hMr
      have hpi := put_is hMr
      have hcutS := fun k (hk : k ≤ (M.flatMap oneS).length) => getS_cut M k hMw hMr hk
      generalize hb : M.flatMap oneS = b at *
      generalize hnb : b.length = nb at *
      have hP := ScPut_is (c := c') hpi hnb lg.2.1.slg hMw (by have := hm.out; omega)
      replace hnb := Lib.hid hnb
      replace hpi := Lib.hid hpi
      replace hb := Lib.hid hb
      have hstop : decide (i < nl) = false ∨ (decide (i < nl) = true ∧ decide ((i : Int) < 200) = false) := by
        by_cases q : i < nl
        · exact .inr ⟨by simpa using q, by simp; omega⟩
        · exact .inl (by simpa using q)
      rcases hstop with q1 | ⟨q1, q2⟩
      · clear hlt
        go_wp2_with fail
        refine hP.mono ?_; rintro e w2 ⟨A2, c2, rfl, lgp⟩
        clear hP
        have k2 := k1.trans (lg.1.trans lgp.1 (by simp)) (by simp)
        replace lg := lg.new lgp.1
        by_cases hz : nb = 0
        · have z : ((nb : Int) == 0) = true := by simp; omega
          clear hz hcutS
          go_wp2_with fail
          go_ret
          exact ⟨rfl, k2⟩
        have z : ((nb : Int) == 0) = false := by simp; omega
        obtain ⟨k, hk⟩ : ∃ k, k = ct.toNat % nb := ⟨_, rfl⟩
        have hkn : k < nb := by rw [hk]; exact Nat.mod_lt _ (by omega)
        have hkm : ct % (nb : Int) = (k : Int) := by rw [hk, Int.natCast_emod, Int.toNat_of_nonneg hct.1]
        have hkt : ct.tmod (nb : Int) = (k : Int) := by rw [Int.tmod_eq_emod_of_nonneg hct.1]; exact hkm
        clear hk
        replace hcutS := hcutS k (by omega)
        have hme := many_eq M k
        have hmf := (many_flat M k).1
        have hml := many_le M k
        obtain ⟨mm, hmm⟩ : ∃ mm, mm = manyS M k := ⟨_, rfl⟩
        rw [← hmm] at hcutS hmf hml
        obtain ⟨aa, haa⟩ : ∃ aa, aa = ((M.take mm).flatMap oneS).length := ⟨_, rfl⟩
        rw [← haa] at hcutS hmf
        obtain ⟨er, her⟩ : ∃ er : Int, (if aa = (b.take k).length then (0 : Int) else 12) = er := ⟨_, rfl⟩
        have hbk : (b.take k).length = k := by rw [List.length_take, hnb.out]; omega
        have heq1 : (er == 0) = decide (aa = k) := by rw [← her, hbk]; by_cases q : aa = k <;> simp [q]
        have heq2 : ((aa : Int) == (k : Int)) = decide (aa = k) := by rw [Bool.eq_iff_iff]; simp; omega
        generalize decide (aa = k) = eqq at *
        replace hbk := Lib.hid hbk
        have hcb : ∀ w9 : World, (Instr.slice 23 (.slice A2 nb c2) none (some (.int .i64 (k : Int))) none).run Try.prog w9 = .ok (.slice (cutA A2 c2 0 1) k c2) w9 := fun w9 => run_upto 23 5 1 Try.underlying23 size8 A2 nb c2 k (by have := lgp.2.1.cap.1; omega) w9
        have hsb := lgp.2.1.slg.cut 0 k (by omega) (by omega) lgp.2.1.cap.1
        rw [List.drop_zero, Nat.sub_zero] at hsb
        have hG := ScGet_is (c := c2) (n := mm) (ki := (aa : Int)) (er := er) hcutS (by rw [List.length_take]; omega) rfl her hsb (by have := lgp.2.1.cap.1; omega) (by omega) (fun x hx => hpr x (take_mem x hx))
        replace her := Lib.hid her
        replace hmm := Lib.hid hmm
        replace haa := Lib.hid haa
        clear hcutS hsb
        go_wp2_with fail
        refine hG.mono ?_; rintro e w3 ⟨A3, c3, rfl, lgx⟩
        clear hG hcb hkm hkt
        replace k2 := k2.trans lgx.1 (by simp)
        replace lg := lg.new lgx.1
        clear lgp
        go_wp2_with fail
        go_loopg [13, 14] m' (fun gg s13 s14 wr => ∃ (m a : Nat), m ≤ m' ∧ m' - m ≤ gg ∧ s13 = .int .i64 (m : Nat) ∧ s14 = .int .i64 (a : Nat) ∧ Aside (a = ((M.take m).flatMap oneS).length) ∧ a ≤ k ∧ Aside (Chg [] w3 wr))
        case atStart => exact ⟨0, 0, by omega, by omega, rfl, rfl, rfl, by omega, Chg.refl [] w3⟩
        case round =>
          rename_i wq _ _
          obtain ⟨m, a, hm0, hg2, rfl, rfl, ha, hak, k3⟩ := hrel
          replace k3 := k3.out
          by_cases hlt : m < m'
          · obtain ⟨o, hx⟩ : ∃ o, M[m]? = some o := ⟨_, List.getElem?_eq_getElem (by have := hm.out; omega)⟩
            have hor := List.all_eq_true.1 hMr o (List.mem_of_getElem? hx)
            have how := hMw o (List.mem_of_getElem? hx)
            have hc1 : ∀ w9 : World, (Instr.slice 22 (.slice A' m' c') (some (.int .i64 (m : Int))) (some (.int .i64 ((m : Int) + 1))) none).run Try.prog w9 = .ok (.slice (cutA A' c' m 7) 1 (c' - m)) w9 := fun w9 => by have h := run_cut (P := Try.prog) 22 31 7 Try.underlying22 size56 A' m' c' m (m + 1) (by omega) (by have := lg.2.1.cap.1; omega) w9; rw [Nat.add_sub_cancel_left] at h; exact h
            have hs1 := lg.2.1.slg.cut m (m + 1) (by omega) (by omega) lg.2.1.cap.1
            rw [Nat.add_sub_cancel_left, one_at hx] at hs1
            have hP1 := fun w9 (k9 : Chg [] w3 w9) => ScPut_is (w := w9) (c := c' - m) (put_oneR hor) rfl (hs1.new k9) (fun x hx => by simp at hx; subst hx; exact how) (by simp)
            have hso := oneS_le o
            have hfs := flat_succ hx
            generalize hsn : (oneS o).length = so at *
            replace hsn := Lib.hid hsn
            replace hfs := Lib.hid hfs
            clear hs1 hor how
            have hwr : IntKind.i64.wrap ((m : Int) + 1) = (m : Int) + 1 := by have := hm.out; rw [IntKind.wrap_i64]; omega
            by_cases hfit : a + so ≤ k
            · have hfb : decide ((a : Int) + (so : Int) ≤ (k : Int)) = true := by simp; omega
              clear hx
              go_wp2_with fail
              refine (hP1 _ k3).mono ?_; rintro e w5 ⟨A5, c5, rfl, lg5⟩
              have k5 := k3.trans lg5.1 (by simp)
              clear lg5
              go_wp2_with fail
              refine (hP1 _ k5).mono ?_; rintro e w6 ⟨A6, c6, rfl, lg6⟩
              have k6 := k5.trans lg6.1 (by simp)
              clear lg6 hP1 hc1
              go_wp2_with fail
              go_roundg (m' - (m + 1))
              case measure => omega
              case rel => exact ⟨m + 1, a + so, by omega, by omega, by go_num, by go_num, (by show _ = _; rw [hfs.out, List.length_append, hsn.out, ha.out]), hfit, k6⟩
            · have hfb : decide ((a : Int) + (so : Int) ≤ (k : Int)) = false := by simp; omega
              obtain rfl : m = mm := by rw [hmm.out]; refine hme m (by have := hm.out; omega) (by rw [← ha.out]; exact hak) (fun y hy => ?_); rw [hx] at hy; injection hy with hy; subst hy; rw [← ha.out, hsn.out]; omega
              obtain rfl : a = aa := by rw [ha.out, haa.out]
              clear hx
              go_wp2_with fail
              refine (hP1 _ k3).mono ?_; rintro e w5 ⟨A5, c5, rfl, lg5⟩
              replace k3 := k3.trans lg5.1 (by simp)
              clear lg5 hP1 hc1
              have hcs : ∀ w9 : World, (Instr.slice 22 (.slice A' m' c') none (some (.int .i64 (m : Int))) none).run Try.prog w9 = .ok (.slice (cutA A' c' 0 7) m c') w9 := fun w9 => run_upto 22 31 7 Try.underlying22 size56 A' m' c' m (by have := lg.2.1.cap.1; omega) w9
              have hsm := (lg.new k3).2.1.slg.cut 0 m (by omega) (by have := hm.out; omega) lg.2.1.cap.1
              rw [List.drop_zero, Nat.sub_zero] at hsm
              have hS := ScSame_any A3 (cutA A' c' 0 7) m m c3 c' (M.take m) (M.take m) _ (lgx.new k3).2.1.slg hsm
              rw [decide_eq_true (rfl : M.take m = M.take m)] at hS
              clear hsm
              go_wp2_with fail
              refine hS.mono ?_; rintro e w9 ⟨rfl, k9⟩
              clear hS hcs
              go_wp2_with fail
              go_ret
              exact ⟨rfl, (k2.trans k3 (by simp)).trans k9 (by simp)⟩
          · have hmM : m = M.length := by have := hm.out; omega
            obtain rfl : m = mm := by rw [hmm.out]; exact hme m (by omega) (by rw [← ha.out]; exact hak) (fun y hy => by rw [List.getElem?_eq_none (by omega)] at hy; cases hy)
            obtain rfl : a = aa := by rw [ha.out, haa.out]
            clear hmM
            have hcs : ∀ w9 : World, (Instr.slice 22 (.slice A' m' c') none (some (.int .i64 (m : Int))) none).run Try.prog w9 = .ok (.slice (cutA A' c' 0 7) m c') w9 := fun w9 => run_upto 22 31 7 Try.underlying22 size56 A' m' c' m (by have := lg.2.1.cap.1; omega) w9
            have hsm := (lg.new k3).2.1.slg.cut 0 m (by omega) (by have := hm.out; omega) lg.2.1.cap.1
            rw [List.drop_zero, Nat.sub_zero] at hsm
            have hS := ScSame_any A3 (cutA A' c' 0 7) m m c3 c' (M.take m) (M.take m) _ (lgx.new k3).2.1.slg hsm
            rw [decide_eq_true (rfl : M.take m = M.take m)] at hS
            clear hsm
            go_wp2_with fail
            refine hS.mono ?_; rintro e w9 ⟨rfl, k9⟩
            clear hS hcs
            go_wp2_with fail
            go_ret
            exact ⟨rfl, (k2.trans k3 (by simp)).trans k9 (by simp)⟩
      · clear hlt
        go_wp2_with fail
        refine hP.mono ?_; rintro e w2 ⟨A2, c2, rfl, lgp⟩
        clear hP
        have k2 := k1.trans (lg.1.trans lgp.1 (by simp)) (by simp)
        replace lg := lg.new lgp.1
        by_cases hz : nb = 0
        · have z : ((nb : Int) == 0) = true := by simp; omega
          clear hz hcutS
          go_wp2_with fail
          go_ret
          exact ⟨rfl, k2⟩
        have z : ((nb : Int) == 0) = false := by simp; omega
        obtain ⟨k, hk⟩ : ∃ k, k = ct.toNat % nb := ⟨_, rfl⟩
        have hkn : k < nb := by rw [hk]; exact Nat.mod_lt _ (by omega)
        have hkm : ct % (nb : Int) = (k : Int) := by rw [hk, Int.natCast_emod, Int.toNat_of_nonneg hct.1]
        have hkt : ct.tmod (nb : Int) = (k : Int) := by rw [Int.tmod_eq_emod_of_nonneg hct.1]; exact hkm
        clear hk
        replace hcutS := hcutS k (by omega)
        have hme := many_eq M k
        have hmf := (many_flat M k).1
        have hml := many_le M k
        obtain ⟨mm, hmm⟩ : ∃ mm, mm = manyS M k := ⟨_, rfl⟩
        rw [← hmm] at hcutS hmf hml
        obtain ⟨aa, haa⟩ : ∃ aa, aa = ((M.take mm).flatMap oneS).length := ⟨_, rfl⟩
        rw [← haa] at hcutS hmf
        obtain ⟨er, her⟩ : ∃ er : Int, (if aa = (b.take k).length then (0 : Int) else 12) = er := ⟨_, rfl⟩
        have hbk : (b.take k).length = k := by rw [List.length_take, hnb.out]; omega
        have heq1 : (er == 0) = decide (aa = k) := by rw [← her, hbk]; by_cases q : aa = k <;> simp [q]
        have heq2 : ((aa : Int) == (k : Int)) = decide (aa = k) := by rw [Bool.eq_iff_iff]; simp; omega
        generalize decide (aa = k) = eqq at *
        replace hbk := Lib.hid hbk
        have hcb : ∀ w9 : World, (Instr.slice 23 (.slice A2 nb c2) none (some (.int .i64 (k : Int))) none).run Try.prog w9 = .ok (.slice (cutA A2 c2 0 1) k c2) w9 := fun w9 => run_upto 23 5 1 Try.underlying23 size8 A2 nb c2 k (by have := lgp.2.1.cap.1; omega) w9
        have hsb := lgp.2.1.slg.cut 0 k (by omega) (by omega) lgp.2.1.cap.1
        rw [List.drop_zero, Nat.sub_zero] at hsb
        have hG := ScGet_is (c := c2) (n := mm) (ki := (aa : Int)) (er := er) hcutS (by rw [List.length_take]; omega) rfl her hsb (by have := lgp.2.1.cap.1; omega) (by omega) (fun x hx => hpr x (take_mem x hx))
        replace her := Lib.hid her
        replace hmm := Lib.hid hmm
        replace haa := Lib.hid haa
        clear hcutS hsb
        go_wp2_with fail
        refine hG.mono ?_; rintro e w3 ⟨A3, c3, rfl, lgx⟩
        clear hG hcb hkm hkt
        replace k2 := k2.trans lgx.1 (by simp)
        replace lg := lg.new lgx.1
        clear lgp
        go_wp2_with fail
        go_loopg [13, 14] m' (fun gg s13 s14 wr => ∃ (m a : Nat), m ≤ m' ∧ m' - m ≤ gg ∧ s13 = .int .i64 (m : Nat) ∧ s14 = .int .i64 (a : Nat) ∧ Aside (a = ((M.take m).flatMap oneS).length) ∧ a ≤ k ∧ Aside (Chg [] w3 wr))
        case atStart => exact ⟨0, 0, by omega, by omega, rfl, rfl, rfl, by omega, Chg.refl [] w3⟩
        case round =>
          rename_i wq _ _
          obtain ⟨m, a, hm0, hg2, rfl, rfl, ha, hak, k3⟩ := hrel
          replace k3 := k3.out
          by_cases hlt : m < m'
          · obtain ⟨o, hx⟩ : ∃ o, M[m]? = some o := ⟨_, List.getElem?_eq_getElem (by have := hm.out; omega)⟩
            have hor := List.all_eq_true.1 hMr o (List.mem_of_getElem? hx)
            have how := hMw o (List.mem_of_getElem? hx)
            have hc1 : ∀ w9 : World, (Instr.slice 22 (.slice A' m' c') (some (.int .i64 (m : Int))) (some (.int .i64 ((m : Int) + 1))) none).run Try.prog w9 = .ok (.slice (cutA A' c' m 7) 1 (c' - m)) w9 := fun w9 => by have h := run_cut (P := Try.prog) 22 31 7 Try.underlying22 size56 A' m' c' m (m + 1) (by omega) (by have := lg.2.1.cap.1; omega) w9; rw [Nat.add_sub_cancel_left] at h; exact h
            have hs1 := lg.2.1.slg.cut m (m + 1) (by omega) (by omega) lg.2.1.cap.1
            rw [Nat.add_sub_cancel_left, one_at hx] at hs1
            have hP1 := fun w9 (k9 : Chg [] w3 w9) => ScPut_is (w := w9) (c := c' - m) (put_oneR hor) rfl (hs1.new k9) (fun x hx => by simp at hx; subst hx; exact how) (by simp)
            have hso := oneS_le o
            have hfs := flat_succ hx
            generalize hsn : (oneS o).length = so at *
            replace hsn := Lib.hid hsn
            replace hfs := Lib.hid hfs
            clear hs1 hor how
            have hwr : IntKind.i64.wrap ((m : Int) + 1) = (m : Int) + 1 := by have := hm.out; rw [IntKind.wrap_i64]; omega
            by_cases hfit : a + so ≤ k
            · have hfb : decide ((a : Int) + (so : Int) ≤ (k : Int)) = true := by simp; omega
              clear hx
              go_wp2_with fail
              refine (hP1 _ k3).mono ?_; rintro e w5 ⟨A5, c5, rfl, lg5⟩
              have k5 := k3.trans lg5.1 (by simp)
              clear lg5
              go_wp2_with fail
              refine (hP1 _ k5).mono ?_; rintro e w6 ⟨A6, c6, rfl, lg6⟩
              have k6 := k5.trans lg6.1 (by simp)
              clear lg6 hP1 hc1
              go_wp2_with fail
              go_roundg (m' - (m + 1))
              case measure => omega
              case rel => exact ⟨m + 1, a + so, by omega, by omega, by go_num, by go_num, (by show _ = _; rw [hfs.out, List.length_append, hsn.out, ha.out]), hfit, k6⟩
            · have hfb : decide ((a : Int) + (so : Int) ≤ (k : Int)) = false := by simp; omega
              obtain rfl : m = mm := by rw [hmm.out]; refine hme m (by have := hm.out; omega) (by rw [← ha.out]; exact hak) (fun y hy => ?_); rw [hx] at hy; injection hy with hy; subst hy; rw [← ha.out, hsn.out]; omega
              obtain rfl : a = aa := by rw [ha.out, haa.out]
              clear hx
              go_wp2_with fail
              refine (hP1 _ k3).mono ?_; rintro e w5 ⟨A5, c5, rfl, lg5⟩
              replace k3 := k3.trans lg5.1 (by simp)
              clear lg5 hP1 hc1
              have hcs : ∀ w9 : World, (Instr.slice 22 (.slice A' m' c') none (some (.int .i64 (m : Int))) none).run Try.prog w9 = .ok (.slice (cutA A' c' 0 7) m c') w9 := fun w9 => run_upto 22 31 7 Try.underlying22 size56 A' m' c' m (by have := lg.2.1.cap.1; omega) w9
              have hsm := (lg.new k3).2.1.slg.cut 0 m (by omega) (by have := hm.out; omega) lg.2.1.cap.1
              rw [List.drop_zero, Nat.sub_zero] at hsm
              have hS := ScSame_any A3 (cutA A' c' 0 7) m m c3 c' (M.take m) (M.take m) _ (lgx.new k3).2.1.slg hsm
              rw [decide_eq_true (rfl : M.take m = M.take m)] at hS
              clear hsm
              go_wp2_with fail
              refine hS.mono ?_; rintro e w9 ⟨rfl, k9⟩
              clear hS hcs
              go_wp2_with fail
              go_ret
              exact ⟨rfl, (k2.trans k3 (by simp)).trans k9 (by simp)⟩
          · have hmM : m = M.length := by have := hm.out; omega
            obtain rfl : m = mm := by rw [hmm.out]; exact hme m (by omega) (by rw [← ha.out]; exact hak) (fun y hy => by rw [List.getElem?_eq_none (by omega)] at hy; cases hy)
            obtain rfl : a = aa := by rw [ha.out, haa.out]
            clear hmM
            have hcs : ∀ w9 : World, (Instr.slice 22 (.slice A' m' c') none (some (.int .i64 (m : Int))) none).run Try.prog w9 = .ok (.slice (cutA A' c' 0 7) m c') w9 := fun w9 => run_upto 22 31 7 Try.underlying22 size56 A' m' c' m (by have := lg.2.1.cap.1; omega) w9
            have hsm := (lg.new k3).2.1.slg.cut 0 m (by omega) (by have := hm.out; omega) lg.2.1.cap.1
            rw [List.drop_zero, Nat.sub_zero] at hsm
            have hS := ScSame_any A3 (cutA A' c' 0 7) m m c3 c' (M.take m) (M.take m) _ (lgx.new k3).2.1.slg hsm
            rw [decide_eq_true (rfl : M.take m = M.take m)] at hS
            clear hsm
            go_wp2_with fail
            refine hS.mono ?_; rintro e w9 ⟨rfl, k9⟩
            clear hS hcs
            go_wp2_with fail
            go_ret
            exact ⟨rfl, (k2.trans k3 (by simp)).trans k9 (by simp)⟩

end Go.Proofs.Ytdmcicgappgiiaa
