/-
  GuestTwo: the walk.
-/
import Derived.Test.YtepbknndemlbcaaLawGuestSets
namespace Go.Proofs.Ytepbknndemlbcaa
open Go.RowKit Go.Maps

/-- every second frame, from o on -/
def steps (o : Int) (n : Nat) : List Int := (List.range n).map fun (i : Nat) => 2 * (i : Int) + o
theorem steps_len (o : Int) (n : Nat) : (steps o n).length = n := by simp [steps]
theorem steps_succ (o : Int) (n : Nat) : steps o (n + 1) = steps o n ++ [2 * (n : Int) + o] := by simp [steps, List.range_succ]
theorem steps_mem {o x : Int} {n : Nat} (h : x ∈ steps o n) : ∃ i : Nat, i < n ∧ x = 2 * (i : Int) + o := by
  simp only [steps, List.mem_map, List.mem_range] at h
  obtain ⟨i, h1, h2⟩ := h
  exact ⟨i, h1, h2.symm⟩
theorem steps_nodup (o : Int) : ∀ n, (steps o n).Nodup
  | 0 => by simp [steps]
  | n + 1 => by
    rw [steps_succ, List.nodup_append]
    refine ⟨steps_nodup o n, by simp, ?_⟩
    intro a ha b hb e
    rw [List.mem_singleton] at hb
    obtain ⟨i, hi, rfl⟩ := steps_mem ha
    omega
theorem steps_ok (o : Int) (n : Nat) (h0 : 0 ≤ o) (h1 : o ≤ 1) (hn1 : 1 ≤ n) (hn : n ≤ 30) : OkL (steps o n) 80 :=
  ⟨by rw [steps_len]; omega, by rw [steps_len]; omega, by omega, by omega, fun x hx => by obtain ⟨i, hi, rfl⟩ := steps_mem hx; omega, steps_nodup o n⟩
theorem steps_apart (n : Nat) : ∀ x ∈ steps 1 n, x ∉ steps 0 n := fun x hx hm => by
  obtain ⟨i, hi, rfl⟩ := steps_mem hx
  obtain ⟨j, hj, e⟩ := steps_mem hm
  omega

set_option maxRecDepth 100000 in
set_option maxHeartbeats 8000000 in
theorem GuestTwo_walk (ni : Int) (A : Option Addr) (n c : Nat) (B : Option Addr) (m d : Nat) (w : World) (hn0 : 0 ≤ ni ∧ ni ≤ 255) (hol : SlOp w A n) (hok : SlOp w B m) :
    Calls Try.prog 5 #[.int .u8 ni, .slice A n c, .slice B m d] w fun e w' => e = .returned (.bool true) ∧ Chg [] w w' := by
  have hnl := hol.le
  have hml := hok.le
  obtain ⟨i0, hi0, hz0, hz1, hz2⟩ := info_parts int_info
  obtain ⟨t, ht⟩ := Int.eq_ofNat_of_zero_le (show 0 ≤ ni % 30 by omega)
  have ht30 : t < 30 := by omega
  go_enter Try.func5, Try.ntmps5
  go_wp2_with fail
  refine (Guhead_any _).mono ?_; rintro e w1 ⟨rfl, hc1⟩
  go_wp2_with fail
  refine (New_at 80 _ (by omega) (by omega)).mono ?_; rintro e w2 ⟨hp, b, rfl, hc2, hm2, hh, hb⟩
  have hca : Chg [] w w2 := hc1.trans hc2 (by simp)
  have hbw : w.heap.size ≤ b := by have := hc1.size; omega
  clear hc1 hc2 hh hb
  go_wp2_with fail
  refine (Great7_any A n c _ (hol.chg hca)).mono ?_; rintro e w' ⟨⟨gr, rfl⟩, rfl⟩
  cases gr with
  | true =>
    go_wp2_with fail
    go_ret
    exact ⟨rfl, hca⟩
  | false =>
    go_wp2_with fail
    refine (Great7_any B m d _ (hok.chg hca)).mono ?_; rintro e w' ⟨⟨gr, rfl⟩, rfl⟩
    cases gr with
    | true =>
      go_wp2_with fail
      go_ret
      exact ⟨rfl, hca⟩
    | false =>
      go_wp2_with fail
      rw [ht]
      clear ht hn0
      go_loopw [10, 11, 12] (fun v1 v2 i w' => ∃ (k : Nat), k ≤ t + 1 ∧ i = .int .i64 k ∧ Chg [] w w' ∧ Chg [] w2 w' ∧ OwnI w' 3 .i64 v1 (steps 0 k) ∧ OwnI w' 3 .i64 v2 (steps 1 k) ∧ (∀ g ∈ v1.ownBlock.toList, w2.heap.size ≤ g) ∧ (∀ g ∈ v2.ownBlock.toList, w2.heap.size ≤ g) ∧ (∀ g ∈ v1.ownBlock.toList, g ∉ v2.ownBlock.toList)) (fun _ _ i _ => t + 1 - (intOf i).toNat)
      case atStart => exact ⟨0, by omega, rfl, hca, Chg.refl _ _, OwnI.none_ _ _ _, OwnI.none_ _ _ _, by simp [Value.ownBlock], by simp [Value.ownBlock], by simp [Value.ownBlock]⟩
      case round =>
        have hca0 := hca
        clear hca
        obtain ⟨k, hk, rfl, hc, hcm, o1, o2, g1, g2, g12⟩ := hrel
        obtain ⟨A1, c1, rfl⟩ := o1.form
        obtain ⟨A2, c2, rfl⟩ := o2.form
        simp only [steps_len] at o1 o2 g1 g2 g12 ⊢
        by_cases hlt : k < t + 1
        · have ho1 : wr.ownsRow 0 3 1 (.slice A1 k c1) k (vals .i64 (steps 0 k)) := by
            have := o1
            unfold OwnI at this
            rwa [steps_len] at this
          have ho2 : wr.ownsRow 0 3 1 (.slice A2 k c2) k (vals .i64 (steps 1 k)) := by
            have := o2
            unfold OwnI at this
            rwa [steps_len] at this
          clear o1 o2
          go_wp2_with (at_builtin
                       first
                         | (refine wpList_append_src rfl _ _ 22 rfl 0 3 i0 _ 1 8 Try.underlying22 hi0 hz0 hz1 hz2 rfl (by omega) (.slice A1 k c1) _ _ rfl (World.ownsRow.alloc ho1 _) (some ⟨wr.heap.size, 0, none⟩) 1 1 [.int .i64 (2 * k)] rfl ⟨by simp, by simp [Value.oneCell'], by simp, cell_src _ wr⟩ (by simp [maxLen]; omega) (by omega) (by simp) ?_
                            intro v3 w3 hown3 hc3 hv3
                            have ho23 := own_chg (World.ownsRow.alloc ho2 (.cells #[.int .i64 (2 * k)] 3)) hc3 (fun g hg hm => g12 g hm (by simpa using hg))
                            obtain ⟨A3, k3, rfl, _, _⟩ := own_form hown3)
                         | (refine wpList_append_src rfl _ _ 22 rfl 0 3 i0 _ 1 8 Try.underlying22 hi0 hz0 hz1 hz2 rfl (by omega) (.slice A2 k c2) _ _ rfl (World.ownsRow.alloc ho23 _) (some ⟨w3.heap.size, 0, none⟩) 1 1 [.int .i64 (2 * k + 1)] rfl ⟨by simp, by simp [Value.oneCell'], by simp, cell_src _ w3⟩ (by simp [maxLen]; omega) (by omega) (by simp) ?_
                            intro v5 w5 hown5 hc5 hv5
                            obtain ⟨A5, k5, rfl, _, _⟩ := own_form hown5))
          have hz : w2.heap.size ≤ wr.heap.size := hcm.size
          have hzz : wr.heap.size < w3.heap.size := by have := hc3.size; simp at this; omega
          have hlow3 : ∀ i ∈ (Value.slice A3 (k + 1) k3).ownBlock.toList, w2.heap.size ≤ i ∧ i < w3.heap.size ∧ i ∉ (Value.slice A2 k c2).ownBlock.toList := by
            intro i hi
            refine ⟨?_, (World.ownsRow.lt hown3 i (by simpa using hi)).2, ?_⟩
            · rcases hv3 with e | e
              · rw [e] at hi; exact g1 i hi
              · rw [e] at hi; simp at hi; omega
            · rcases hv3 with e | e
              · rw [e] at hi; exact g12 i hi
              · rw [e] at hi
                intro hm
                have := (World.ownsRow.lt ho2 i (by simpa using hm)).2
                simp at hi; omega
          have hcm3 : Chg [] w2 w3 := (hcm.alloc _).trans hc3 (by intro i hi hm; have := g1 i hm; omega)
          have hcm5 : Chg [] w2 w5 := (hcm3.alloc _).trans hc5 (by intro i hi hm; have := g2 i hm; omega)
          have hcw5 : Chg [] w w5 := ((hc.alloc _).trans hc3 (by intro i hi hm; have := g1 i hm; have := hca0.size; omega)).alloc _ |>.trans hc5 (by intro i hi hm; have := g2 i hm; have := hca0.size; omega)
          go_roundw
          case rel =>
            refine ⟨k + 1, by omega, by go_num, hcw5, hcm5, ?_, ?_, fun i hi => (hlow3 i hi).1, ?_, ?_⟩
            · rw [steps_succ]
              unfold OwnI
              rw [List.length_append, steps_len, vals_app, show 2 * (k : Int) + 0 = 2 * k by omega, vals_one]
              exact own_chg (World.ownsRow.alloc hown3 _) hc5 (fun g hg hm => (hlow3 g (by simpa using hg)).2.2 hm)
            · rw [steps_succ]
              unfold OwnI
              rw [List.length_append, steps_len, vals_app, vals_one]
              exact hown5
            · intro i hi
              rcases hv5 with e | e
              · rw [e] at hi; exact g2 i hi
              · rw [e] at hi; simp at hi; omega
            · intro i hi hm
              obtain ⟨l1, l2, l3⟩ := hlow3 i hi
              rcases hv5 with e | e
              · rw [e] at hm; exact l3 hm
              · rw [e] at hm; simp at hm; omega
          case measure => simp [intOf]; omega
        · obtain rfl : k = t + 1 := by omega
          have ok1 := steps_ok 0 (t + 1) (by omega) (by omega) (by omega) (by omega)
          have ok2 := steps_ok 1 (t + 1) (by omega) (by omega) (by omega) (by omega)
          have hap := steps_apart (t + 1)
          have hl2 := steps_len 1 (t + 1)
          have s1 : SlK .i64 wr A1 (t + 1) (steps 0 (t + 1)) := OwnI.slk o1 (fun x hx => by obtain ⟨i, hi, rfl⟩ := steps_mem hx; simp [IntKind.min, IntKind.max, IntKind.signed, IntKind.bits]; omega) (by rw [steps_len]; omega)
          have s2 : SlK .i64 wr A2 (t + 1) (steps 1 (t + 1)) := OwnI.slk o2 (fun x hx => by obtain ⟨i, hi, rfl⟩ := steps_mem hx; simp [IntKind.min, IntKind.max, IntKind.signed, IntKind.bits]; omega) (by rw [steps_len]; omega)
          have HL2 := Lib.hid hl2
          have hmr := hm2.chg hcm (by simp) (by simp)
          clear o1 o2 g1 g2 g12 hcm hm2 hl2
          generalize steps 0 (t + 1) = L1 at *
          generalize steps 1 (t + 1) = L2 at *
          go_wp2_with fail
          refine (GNew_ok A1 (t + 1) c1 L1 80 _ s1 ok1).mono ?_; rintro e w3 ⟨p, S, rfl, hc3, h3, _⟩
          have hcb : Chg [] w w3 := hc.trans hc3 (by simp)
          go_wp2_with fail
          refine (GNew_ok A2 (t + 1) c2 L2 80 _ (s2.chg hc3) ok2).mono ?_; rintro e w4 ⟨p', S', rfl, hc4, h4, _⟩
          have hcc : Chg [] w w4 := hcb.trans hc4 (by simp)
          have h3' := h3.self hc4
          have hm4 := (hmr.chg hc3 (by simp) (by simp)).chg hc4 (by simp) (by simp)
          clear hc hc3 hcb h3 hc4 hmr s1 s2
          go_wp2_with fail
          refine (GuNew_at p hp _).mono ?_; rintro e w5 ⟨q, rfl, hc5, h5, hq⟩
          have hcd : Chg [] w w5 := hcc.trans hc5 (by simp)
          have h35 := h3'.self hc5
          have h45 := h4.self hc5
          have hm5 := hm4.chg hc5 (by simp) (by simp)
          clear hcc hc5 h3' h4 hm4 hq
          go_wp2_with fail
          refine (GuNew_at p' hp _).mono ?_; rintro e w6 ⟨q', rfl, hc6, h6, hq⟩
          have hce : Chg [] w w6 := hcd.trans hc6 (by simp)
          have hm6 := hm5.chg hc6 (by simp) (by simp)
          have g6 : GuIn w6 q S p L1 hp b 80 (zeros (8 * 80)) := ⟨hc6.blk h5 (by simp), h35.self hc6, hm6, ok1.inh⟩
          have g6' : GuIn w6 q' S' p' L2 hp b 80 (zeros (8 * 80)) := ⟨h6, h45.self hc6, hm6, ok2.inh⟩
          clear hcd hc6 hm5 hm6 h5 h6 h35 h45 hq
          generalize zeros (8 * 80) = W at *
          go_wp2_with fail
          go_loopw [17] (fun i w' => ∃ (k : Nat) (W : List Int), k ≤ m ∧ i = .int .i64 k ∧ Chg [] w w' ∧ GuIn w' q S p L1 hp b 80 W ∧ GuIn w' q' S' p' L2 hp b 80 W) (fun i _ => m - (intOf i).toNat)
          case atStart => exact ⟨0, W, by omega, rfl, hce, g6, g6'⟩
          case round =>
            clear hce g6 g6' W hk
            obtain ⟨k, W, hk, rfl, hc, g, g'⟩ := hrel
            by_cases hlt : k < m
            · obtain ⟨ob, off, rfl, what, f, i, x, LA, LN, LC, xs, ho⟩ := (hok.chg hc).get hlt
              have c1 := ho.c1; have c2 := ho.c2; have c3 := ho.c3
              clear ho
              have hset := GuSet_at q' S' p' L2 hp b 80 W f i x wr.drew (g'.self (Chg.refl [] wr).drew)
              go_wp2_with fail
              refine wp_region_still_tail 16 (by kernel_rfl) (by kernel_rfl) ?_
              simp only [List.take_succ_cons, List.take_zero, List.drop_succ_cons, List.drop_zero]
              change wpStill _ _ (World.drew _) _ _ _
              iterate 16 still_step
              refine wpStill_nil ?_
              change wpList _ _ _ _ _ (World.drew wr)
              go_wp2_with fail
              refine hset.mono ?_; rintro e w3 ⟨rfl, hc3, g3⟩
              clear hset c1 c2 c3
              have hcw : Chg [] w w3 := ((hc.trans (Chg.refl [] wr).drew (by simp)).trans hc3 (by intro i hi hm; simp at hm; omega))
              have g3' := (g.self (Chg.refl [] wr).drew).write hc3 g3.hm
              go_wp2_with fail
              go_roundw
              case rel => exact ⟨k + 1, _, by omega, by go_num, hcw, g3', g3⟩
              case measure => simp [intOf]; omega
            · obtain rfl : k = m := by omega
              clear hlt hk
              go_wp2_with fail
              refine (GuAll_at q' S' p' L2 hp b 80 _ _ g').mono ?_; rintro e w7 ⟨A7, c7, rfl, hc7, ho7, hlow7⟩
              have g7 := g.self hc7
              have g7' := g'.self hc7
              have hcc : Chg [] w w7 := hc.trans hc7 (by simp)
              have s7 := ho7.slu
              have hA7 : ∀ gb o, A7 = some ⟨gb, o, none⟩ → gb ≠ b := fun gb o e => by
                obtain ⟨gb', c', he, _, _⟩ := ho7.pos_ (by rw [allG_len]; have := ok2.1; omega)
                injection he with he1 _ _
                rw [e] at he1; injection he1 with he1; injection he1 with he1 _; subst he1
                have := hlow7 gb (by rw [e]; simp [Value.ownBlock])
                have := g.hm.ws.lt
                omega
              clear hc hc7 ho7 hlow7 g g'
              have hl2 := HL2.out
              rw [hl2] at s7 ⊢
              clear hl2
              generalize hW7 : allG W L2 = R7 at *
              have HR7 := Lib.hid hW7
              clear hW7
              go_wp2_with fail
              go_loopw [19] (fun i w' => ∃ (k : Nat) (W : List Int), k ≤ n ∧ i = .int .i64 k ∧ Chg [] w w' ∧ GuIn w' q S p L1 hp b 80 W ∧ GuIn w' q' S' p' L2 hp b 80 W ∧ allG W L2 = R7 ∧ SlU w' A7 (8 * (t + 1)) R7) (fun i _ => n - (intOf i).toNat)
              case atStart => exact ⟨0, W, by omega, rfl, hcc, g7, g7', HR7.out, s7⟩
              case round =>
                clear hcc g7 g7' HR7 W s7
                obtain ⟨k, W, hk, rfl, hc, g, g', hR, s7⟩ := hrel
                have HR := Lib.hid hR
                clear hR
                by_cases hlt : k < n
                · obtain ⟨ob, off, rfl, what, f, i, x, LA, LN, LC, xs, ho0⟩ := hol.get hlt
                  have ho := ho0.chg hc (World.block_lt_of_cell? _ _ ho0.c0)
                  have c0 := ho.c0; have c1 := ho.c1; have c2 := ho.c2; have c3 := ho.c3; have c4 := ho.c4
                  have hls := ho.ls
                  have hln := ho.ln
                  have hlc := ho.lc
                  have hapb : 0 < LN → ∀ g o, LA = some ⟨g, o, none⟩ → g ≠ b := fun h0 g o e => by
                    obtain ⟨b', o', e', hb', _⟩ := ho0.ls.at_ h0
                    rw [e] at e'; injection e' with e'; injection e' with e1 _; omega
                  clear ho ho0
                  by_cases h3 : what = 3
                  · subst h3
                    clear c1 c2 c3
                    have hout := loadG_out (W := W) (xs := xs) ok1.inh g.hm.len
                    have HO := Lib.hid (hout.all ok2.inh hap)
                    clear hout
                    go_wp2_with fail
                    refine (GuLoad_at q S p L1 hp b 80 W LA LN LC xs _ g hls hln hlc hapb).mono ?_; rintro e w3 ⟨rfl, hc3, g3⟩
                    clear c0 c4 hls
                    have hcw : Chg [] w w3 := hc.trans hc3 (by intro i hi hm; simp at hm; omega)
                    have g3' := g'.write hc3 g3.hm
                    have s3 := s7.chg hc3 (fun g o e => by simpa using hA7 g o e)
                    go_wp2_with fail
                    go_roundw
                    case rel => exact ⟨k + 1, _, by omega, by go_num, hcw, g3, g3', HO.out.trans HR.out, s3⟩
                    case measure => simp [intOf]; omega
                  · have e3 : (what == 3) = false := by simp [h3]
                    clear h3 c4 hls hln hlc hapb
                    have hset := GuSet_at q S p L1 hp b 80 W f i x wr.drew (g.self (Chg.refl [] wr).drew)
                    have hout := setG_out (n := 80) (W := W) ok1.inh f i x
                    have HO := Lib.hid (hout.all ok2.inh hap)
                    clear hout
                    go_wp2_with fail
                    refine wp_region_still_tail 16 (by kernel_rfl) (by kernel_rfl) ?_
                    simp only [List.take_succ_cons, List.take_zero, List.drop_succ_cons, List.drop_zero]
                    change wpStill _ _ (World.drew _) _ _ _
                    iterate 16 still_step
                    refine wpStill_nil ?_
                    change wpList _ _ _ _ _ (World.drew wr)
                    go_wp2_with fail
                    refine hset.mono ?_; rintro e w3 ⟨rfl, hc3, g3⟩
                    clear hset c0 c1 c2 c3
                    have hcw : Chg [] w w3 := ((hc.trans (Chg.refl [] wr).drew (by simp)).trans hc3 (by intro i hi hm; simp at hm; omega))
                    have g3' := (g'.self (Chg.refl [] wr).drew).write hc3 g3.hm
                    have s3 := (s7.chg ((Chg.refl [] wr).drew) (by simp)).chg hc3 (fun g o e => by simpa using hA7 g o e)
                    go_wp2_with fail
                    go_roundw
                    case rel => exact ⟨k + 1, _, by omega, by go_num, hcw, g3, g3', HO.out.trans HR.out, s3⟩
                    case measure => simp [intOf]; omega
                · go_wp2_with fail
                  refine (GuAll_at q' S' p' L2 hp b 80 _ _ g').mono ?_; rintro e w8 ⟨A8, c8, rfl, hc8, ho8, hlow8⟩
                  rw [HR.out] at ho8
                  have hl2 := HL2.out
                  rw [hl2] at ho8 ⊢
                  clear hl2
                  have e9 : (8 * ((t : Int) + 1) == 8 * (1 + (t : Int))) = true := by rw [Int.add_comm]; simp
                  go_wp2_with fail
                  refine (SameWords_any A8 A7 _ _ c8 c7 _ _ _ ho8.slu (s7.chg hc8 (by simp)) (by omega) (by omega)).mono ?_; rintro e w9 ⟨rfl, q9, rfl⟩
                  rw [eqL_self]
                  go_wp2_with fail
                  go_ret
                  exact ⟨rfl, (hc.trans hc8 (by simp)).drewN q9⟩

end Go.Proofs.Ytepbknndemlbcaa
