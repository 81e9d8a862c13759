/-
  RightMeet: the walk.
-/
import Derived.Test.YthnhellobpceaaaRightArg
namespace Go.Proofs.Ythnhellobpceaaa
open Go.RowKit

set_option maxRecDepth 100000 in
set_option maxHeartbeats 4000000 in
theorem RightMeet_at (A : Option Addr) (n c : Nat) (L : List Rg) (x : Rg) (w : World) (hA : SlR w A n L) (hn : n ≤ 9223372036854775807) (nA : A = none → n = 0 ∧ c = 0) :
    Calls Try.prog 4 #[.slice A n c, .agg x.cs] w fun e w' => e = .returned (.bool true) ∧ Chg [] w w' := by
  by_cases hlen : n > 900
  · go_enter Try.func4, Try.ntmps4
    go_wp2_with fail
    refine (head_any _).mono ?_; rintro e w1 ⟨rfl, hc1⟩
    go_wp2_with fail
    go_ret
    exact ⟨rfl, ((Chg.refl [] w).alloc _).trans hc1 (by simp)⟩
  obtain ⟨i0, hi0, hz0, hz1, hz2⟩ := right_parts
  have hl := hA.len
  have hMt : ∀ r ∈ L, under (meetL L) r = true := fun r hr => meet_under hr
  have hUx : under x (meetL L) = L.all (under x) := under_meet x L
  have hUa : under (meetL L) Rg.all = true := under_all _
  have hq := fun w => run_eqR (meetL L) (meetL L) w
  rw [Rg.eqb_self] at hq
  have U := Under_any
  have AA := All_any
  generalize hmm : meetL L = m at *
  obtain ⟨xw, xu, xx⟩ := x
  obtain ⟨mw, mu, mx⟩ := m
  simp only [Rg.cs, Rg.all] at *
  have HMM := Lib.hid hmm; have HMT := Lib.hid hMt; have HUX := Lib.hid hUx; have HUA := Lib.hid hUa
  clear hmm hMt hUx hUa
  go_enter Try.func4, Try.ntmps4
  go_wp2_with fail
  refine (head_any _).mono ?_; rintro e w1 ⟨rfl, hc1⟩
  have hX := (Blk.new w 26 #[.bool xw, .bool xu, .bool xx]).chg_ hc1 (by simp)
  have hcw := ((Chg.refl [] w).alloc (Obj.cells #[.bool xw, .bool xu, .bool xx] 26)).trans hc1 (by simp)
  clear hc1
  generalize w.heap.size = g at *
  go_wp2_with fail
  refine (Meet_any A n c L _ (hA.new hcw) hn).mono ?_; rintro e w2 ⟨rfl, hc2⟩
  rw [HMM.out]
  simp only [Rg.cs]
  replace hX := hX.chg_ hc2 (by simp)
  replace hcw := hcw.trans hc2 (by simp)
  clear hc2
  go_wp2_with fail
  have hM := Blk.new w2 26 #[.bool mw, .bool mu, .bool mx]
  replace hX := hX.alloc (Obj.cells #[.bool mw, .bool mu, .bool mx] 26)
  replace hcw := hcw.alloc (Obj.cells #[.bool mw, .bool mu, .bool mx] 26)
  generalize w2.heap.size = gm at *
  generalize w2.alloc (Obj.cells #[.bool mw, .bool mu, .bool mx] 26) = w3 at *
  go_loopw [7, 8, 9] (fun s v i w' => ∃ k : Nat, k ≤ n ∧ i = .int .i64 k ∧ s = .bool ((L.take k).all (under ⟨xw, xu, xx⟩)) ∧ Chg [] w3 w' ∧ w'.ownsRow 0 26 3 v (2 * k) (rcells ((twice L).take (2 * k))) ∧ (∀ i ∈ v.ownBlock.toList, w3.heap.size ≤ i)) (fun _ _ i _ => n - (intOf i).toNat)
  case atStart => exact ⟨0, by omega, rfl, by simp, Chg.refl _ _, by simpa [rcells] using own_nil3 w3 26, by simp [Value.ownBlock]⟩
  case round =>
    obtain ⟨k, hk, rfl, rfl, hcr, hown, hown0⟩ := hrel
    by_cases hlt : k < n
    · obtain ⟨b, off, r, rfl, hb, hr, e0, e1, e2⟩ := ((hA.new hcw).new hcr).get hlt
      have hXr := hX.chg_ hcr (by simp)
      have hMr := hM.chg_ hcr (by simp)
      obtain ⟨x0, x1, x2⟩ := blk3 hXr
      obtain ⟨m0, m1, m2⟩ := blk3 hMr
      have hall := all_snoc (under ⟨xw, xu, xx⟩) hr
      have hU1 := fun w => U ⟨xw, xu, xx⟩ r w
      have hU2 := fun w => U ⟨mw, mu, mx⟩ r w
      rw [HMT.out r (List.mem_of_getElem? hr)] at hU2
      generalize (L.take k).all (under ⟨xw, xu, xx⟩) = t at *
      generalize under ⟨xw, xu, xx⟩ r = ur at *
      have HALL := Lib.hid hall
      clear hall hr
      obtain ⟨rw', ru, rx⟩ := r
      simp only at e0 e1 e2 hU1 hU2
      have hE : wr.cell? ⟨b, off + k * 3, none⟩ = some (.bool rw') ∧ wr.cell? ⟨b, off + k * 3 + 1, none⟩ = some (.bool ru) ∧ wr.cell? ⟨b, off + k * 3 + 2, none⟩ = some (.bool rx) := ⟨e0, e1, e2⟩
      clear x0 x1 x2 m0 m1 m2 e0 e1 e2
      obtain ⟨Av, cv, rfl, _, _⟩ := own_form hown
      obtain ⟨q, hqk⟩ : ∃ q, q + k + 1 = n := ⟨n - 1 - k, by omega⟩
      cases t
      all_goals
        have hX3 := blk3 hXr
        have x0 := fun n' : Cls wr => n'.cell (show wr.cell? _ = _ from hX3.1)
        have x1 := fun n' : Cls wr => n'.cell (show wr.cell? _ = _ from hX3.2.1)
        have x2 := fun n' : Cls wr => n'.cell (show wr.cell? _ = _ from hX3.2.2)
        have e0 := fun n' : Cls wr => n'.cell (show wr.cell? _ = _ from hE.1)
        have e1 := fun n' : Cls wr => n'.cell (show wr.cell? _ = _ from hE.2.1)
        have e2 := fun n' : Cls wr => n'.cell (show wr.cell? _ = _ from hE.2.2)
        go_wp2_with fail
        refine wp_region_cls (by kernel_rfl) (by kernel_rfl) ?_
        repeat (go_big_quiet_step (first | (go_at_call 17; with_reducible exact Calls.cls (hU1 _))))
        refine wpQuiet_nil ?_
        rintro _ ⟨n1, rfl⟩
        clear x0 x1 x2 e0 e1 e2
        have hc1 := hcr.trans n1.ok (by simp)
        have hM3 := blk3 (n1.blk hMr)
        obtain ⟨b', off', r2, eb, hb2, hr2, e0, e1, e2⟩ := ((hA.new hcw).new hcr).get (k := k) hlt
        injection eb with eb; injection eb with eb1 eb2; subst eb1; subst eb2
        have hE1 := And.intro (n1.cell hE.1) (And.intro (n1.cell hE.2.1) (n1.cell hE.2.2))
        have hown1 := own_chg hown n1.ok (by simp)
        clear e0 e1 e2 hr2 hb2 hE hX3
        generalize n1.val = v1 at *
        have m0 := fun n' : Cls v1 => n'.cell (show v1.cell? _ = _ from hM3.1)
        have m1 := fun n' : Cls v1 => n'.cell (show v1.cell? _ = _ from hM3.2.1)
        have m2 := fun n' : Cls v1 => n'.cell (show v1.cell? _ = _ from hM3.2.2)
        have e0 := fun n' : Cls v1 => n'.cell (show v1.cell? _ = _ from hE1.1)
        have e1 := fun n' : Cls v1 => n'.cell (show v1.cell? _ = _ from hE1.2.1)
        have e2 := fun n' : Cls v1 => n'.cell (show v1.cell? _ = _ from hE1.2.2)
        go_wp2_with fail
        refine wp_region_cls (by kernel_rfl) (by kernel_rfl) ?_
        repeat (go_big_quiet_step (first | (go_at_call 17; with_reducible exact Calls.cls (hU2 _))))
        refine wpQuiet_nil ?_
        rintro _ ⟨n2, rfl⟩
        clear m0 m1 m2 e0 e1 e2 hM3 hE1 hU1 hU2
        have hc2 := hc1.trans n2.ok (by simp)
        have hown2 := own_chg hown1 n2.ok (by simp)
        obtain ⟨b', off', r2, eb, hb2, hr2, e0, e1, e2⟩ := ((hA.new hcw).new hc2).get (k := q) (by omega)
        injection eb with eb; injection eb with eb1 eb2; subst eb1; subst eb2
        have hsn := twice_snoc (L := L) (k := k) (q := q) (by omega) hr2
        have HSN := Lib.hid hsn
        clear hsn hr2 hc1 hown1
        generalize n2.val = v2 at *
        have hE2 : v2.cell? ⟨b, off + q * 3, none⟩ = some (.bool r2.w) ∧ v2.cell? ⟨b, off + q * 3 + 1, none⟩ = some (.bool r2.u) ∧ v2.cell? ⟨b, off + q * 3 + 2, none⟩ = some (.bool r2.x) := ⟨e0, e1, e2⟩
        have s1 : IntKind.i64.wrap ((n : Int) - 1) = (q : Int) + k := by rw [IntKind.wrap_i64]; omega
        have s2 : IntKind.i64.wrap ((q : Int) + k - k) = (q : Int) := by rw [IntKind.wrap_i64]; omega
        have s3 : IntKind.i64.wrap (q : Int) = (q : Int) := by rw [IntKind.wrap_i64]; omega
        have hq0 : (q : Int) < n := by omega
        have hC2 : Chg [] v2 (v2.alloc (Obj.cells #[.bool r2.w, .bool r2.u, .bool r2.x, .bool r2.w, .bool r2.u, .bool r2.x] 26)).drew := ((Chg.refl [] v2).alloc _).drew
        have hB6 : Blk (v2.alloc (Obj.cells #[.bool r2.w, .bool r2.u, .bool r2.x, .bool r2.w, .bool r2.u, .bool r2.x] 26)).drew v2.heap.size 26 #[.bool r2.w, .bool r2.u, .bool r2.x, .bool r2.w, .bool r2.u, .bool r2.x] := Blk.drew (Blk.new v2 26 _)
        have hs6 := (SlR.made2 r2 r2 hB6).src (c := 2) (by simp)
        have hown3 := own_chg hown2 hC2 (by simp)
        have hb3 : b < w3.heap.size := by
          obtain ⟨b', off', r3, eb, hb3, _⟩ := (hA.new hcw).get (k := q) (by omega)
          injection eb with eb; injection eb with eb1 eb2; subst eb1; exact hb3
        have hEn : ∀ w5, Chg (Value.slice Av (2 * k) cv).ownBlock.toList (v2.alloc (Obj.cells #[.bool r2.w, .bool r2.u, .bool r2.x, .bool r2.w, .bool r2.u, .bool r2.x] 26)).drew w5 → w5.cell? ⟨b, off + q * 3, none⟩ = some (.bool r2.w) ∧ w5.cell? ⟨b, off + q * 3 + 1, none⟩ = some (.bool r2.u) ∧ w5.cell? ⟨b, off + q * 3 + 2, none⟩ = some (.bool r2.x) := fun w5 h5 => by
          have h6 := (hC2.weak (T := (Value.slice Av (2 * k) cv).ownBlock.toList) (by simp)).trans h5 (fun i _ h => h)
          have hne : b ∉ (Value.slice Av (2 * k) cv).ownBlock.toList := fun hm => by have := hown0 b hm; omega
          have hbl : b < v2.heap.size := hb2
          rw [h6.cell (p := ⟨b, off + q * 3, none⟩) hbl hne, h6.cell (p := ⟨b, off + q * 3 + 1, none⟩) hbl hne, h6.cell (p := ⟨b, off + q * 3 + 2, none⟩) hbl hne]
          exact hE2
        go_wp2_with fail
        go_region_held3  (fun w' => w'.cell? ⟨b, off + q * 3, none⟩ = some (.bool r2.w) ∧ w'.cell? ⟨b, off + q * 3 + 1, none⟩ = some (.bool r2.u) ∧ w'.cell? ⟨b, off + q * 3 + 2, none⟩ = some (.bool r2.x))
            (first
              | exact hE2
              | exact hE3
              | go_keep)
            ((first
              | (refine step_append_src rfl (.tmp 39) (.tmp 56) 24 rfl 0 26 i0 _ 3 3 Try.underlying24 hi0 hz0 hz1 hz2 rfl (by omega) (.slice Av (2 * k) cv) (2 * k) _ rfl hown3 (some ⟨v2.heap.size, 0, none⟩) 2 2 (rcells [r2, r2]) rfl hs6 (by simp [maxLen]; omega) (by omega) (Nat.zero_le _) (2 * (k + 1)) (by omega) _ rfl ?_; intro v5 w5 hown5 hc5 hv5; have hcw5 : Chg [] w3 w5 := (hc2.trans hC2 (by simp)).trans hc5 (by intro i hi hm; have := hown0 i hm; omega); have hE3 := hEn _ hc5)))
        go_wp2_with fail
        go_roundw
        case rel =>
          refine ⟨k + 1, by omega, by go_num, by rw [HALL.out]; rfl, hcw5, ?_, ?_⟩
          · rw [HSN.out, rcells_app]; exact hown5
          · intro i hi
            have hz := hc2.size
            rcases hv5 with e | e
            · rw [e] at hi; exact hown0 i hi
            · rw [e] at hi; simp at hi; omega
        case measure => simp [intOf]; omega
    · obtain rfl : k = n := by omega
      obtain ⟨Av, cv, rfl, _, _⟩ := own_form hown
      have hS := own_slr hown
      rw [← hl, twice_all] at hS
      rw [← hl, List.take_length]
      rw [← HUX.out]
      have hX3 := blk3 (hX.chg_ hcr (by simp))
      have hM3 := blk3 (hM.chg_ hcr (by simp))
      have hU1 := fun w => U ⟨xw, xu, xx⟩ ⟨mw, mu, mx⟩ w
      have hU2 := fun w => U ⟨mw, mu, mx⟩ ⟨true, true, true⟩ w
      rw [HUA.out] at hU2
      have M1 : ∀ n' : Cls wr, Calls Try.prog 15 #[.slice Av (2 * L.length) cv] n'.val fun e w' => e = .returned (.agg #[.bool mw, .bool mu, .bool mx]) ∧ Chg [] n'.val w' := fun n' => by
        have := Meet_any Av (2 * L.length) cv (twice L) n'.val (hS.new n'.ok) (by omega)
        rw [meet_twice, HMM.out] at this
        exact this
      have hcf := hcw.trans hcr (by simp)
      rw [hl] at M1
      generalize under ⟨xw, xu, xx⟩ ⟨mw, mu, mx⟩ = t at *
      clear hS hown hown0 hX hM hA nA U HUX HUA HMM HMT
      cases t
      all_goals
        have x0 := fun n' : Cls wr => n'.cell (show wr.cell? _ = _ from hX3.1)
        have x1 := fun n' : Cls wr => n'.cell (show wr.cell? _ = _ from hX3.2.1)
        have x2 := fun n' : Cls wr => n'.cell (show wr.cell? _ = _ from hX3.2.2)
        have m0 := fun n' : Cls wr => n'.cell (show wr.cell? _ = _ from hM3.1)
        have m1 := fun n' : Cls wr => n'.cell (show wr.cell? _ = _ from hM3.2.1)
        have m2 := fun n' : Cls wr => n'.cell (show wr.cell? _ = _ from hM3.2.2)
        go_wp2_with fail
        refine wp_region_cls (by kernel_rfl) (by kernel_rfl) ?_
        repeat (go_big_quiet_step (first | (go_at_call 17; with_reducible exact Calls.cls (hU1 _)) | (go_at_call 15; with_reducible exact Calls.cls (M1 _)) | (go_at_call 13; with_reducible exact Calls.cls (AA _)) | (go_at_call 17; with_reducible exact Calls.cls (hU2 _))))
        refine wpQuiet_nil ?_
        rintro _ ⟨n1, rfl⟩
        go_wp2_with fail
        go_ret
        exact ⟨rfl, hcf.trans n1.ok (by simp)⟩

end Go.Proofs.Ythnhellobpceaaa
