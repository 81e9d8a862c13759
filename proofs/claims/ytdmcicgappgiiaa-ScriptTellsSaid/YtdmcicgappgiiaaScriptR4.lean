/-
  The document's Get.
-/
import Derived.Test.YtdmcicgappgiiaaScriptR3
namespace Go.Proofs.Ytdmcicgappgiiaa
open Go.RowKit Go.Shelf

theorem op_pat0 {b : List Int} {a : Nat} (hA : hasPA (whatS (b.drop a)) = true) (hG : hasPG (whatS (b.drop a)) = false) (hI : hasPI (whatS (b.drop a)) = false) (hV : hasPV (whatS (b.drop a)) = false) (hN : hasPN (whatS (b.drop a)) = false) : opS (b.drop a) = ⟨whatS (b.drop a), decide (128 ≤ (b.drop a).getD 0 0), n8 ((b.drop (a + 1)).take 8), 0, 0, 0, 0⟩ ∧ sizeS (whatS (b.drop a)) = 9 := by
  have e1 : plA (whatS (b.drop a)) = 9 := by unfold plA; rw [hA]; rfl
  have e2 : plG (whatS (b.drop a)) = 9 := by unfold plG; rw [e1, hG]; rfl
  have e3 : plI (whatS (b.drop a)) = 9 := by unfold plI; rw [e2, hI]; rfl
  have e4 : plV (whatS (b.drop a)) = 9 := by unfold plV; rw [e3, hV]; rfl
  refine ⟨?_, by unfold sizeS; rw [e4, hN]; rfl⟩
  unfold opS
  rw [e1, e2, e3, e4, hA, hG, hI, hV, hN]
  simp [List.drop_drop, List.getD_eq_getElem?_getD]
theorem op_pat1 {b : List Int} {a : Nat} (hA : hasPA (whatS (b.drop a)) = true) (hG : hasPG (whatS (b.drop a)) = false) (hI : hasPI (whatS (b.drop a)) = false) (hV : hasPV (whatS (b.drop a)) = true) (hN : hasPN (whatS (b.drop a)) = false) : opS (b.drop a) = ⟨whatS (b.drop a), decide (128 ≤ (b.drop a).getD 0 0), n8 ((b.drop (a + 1)).take 8), n8 ((b.drop (a + 9)).take 8), 0, 0, 0⟩ ∧ sizeS (whatS (b.drop a)) = 17 := by
  have e1 : plA (whatS (b.drop a)) = 9 := by unfold plA; rw [hA]; rfl
  have e2 : plG (whatS (b.drop a)) = 9 := by unfold plG; rw [e1, hG]; rfl
  have e3 : plI (whatS (b.drop a)) = 9 := by unfold plI; rw [e2, hI]; rfl
  have e4 : plV (whatS (b.drop a)) = 17 := by unfold plV; rw [e3, hV]; rfl
  refine ⟨?_, by unfold sizeS; rw [e4, hN]; rfl⟩
  unfold opS
  rw [e1, e2, e3, e4, hA, hG, hI, hV, hN]
  simp [List.drop_drop, List.getD_eq_getElem?_getD]
theorem op_pat2 {b : List Int} {a : Nat} (hA : hasPA (whatS (b.drop a)) = false) (hG : hasPG (whatS (b.drop a)) = true) (hI : hasPI (whatS (b.drop a)) = false) (hV : hasPV (whatS (b.drop a)) = false) (hN : hasPN (whatS (b.drop a)) = false) : opS (b.drop a) = ⟨whatS (b.drop a), decide (128 ≤ (b.drop a).getD 0 0), 0, 0, b.getD (a + 1) 0, 0, 0⟩ ∧ sizeS (whatS (b.drop a)) = 2 := by
  have e1 : plA (whatS (b.drop a)) = 1 := by unfold plA; rw [hA]; rfl
  have e2 : plG (whatS (b.drop a)) = 2 := by unfold plG; rw [e1, hG]; rfl
  have e3 : plI (whatS (b.drop a)) = 2 := by unfold plI; rw [e2, hI]; rfl
  have e4 : plV (whatS (b.drop a)) = 2 := by unfold plV; rw [e3, hV]; rfl
  refine ⟨?_, by unfold sizeS; rw [e4, hN]; rfl⟩
  unfold opS
  rw [e1, e2, e3, e4, hA, hG, hI, hV, hN]
  simp [List.getD_eq_getElem?_getD]
theorem op_pat3 {b : List Int} {a : Nat} (hA : hasPA (whatS (b.drop a)) = false) (hG : hasPG (whatS (b.drop a)) = true) (hI : hasPI (whatS (b.drop a)) = true) (hV : hasPV (whatS (b.drop a)) = true) (hN : hasPN (whatS (b.drop a)) = false) : opS (b.drop a) = ⟨whatS (b.drop a), decide (128 ≤ (b.drop a).getD 0 0), 0, n8 ((b.drop (a + 3)).take 8), b.getD (a + 1) 0, b.getD (a + 2) 0, 0⟩ ∧ sizeS (whatS (b.drop a)) = 11 := by
  have e1 : plA (whatS (b.drop a)) = 1 := by unfold plA; rw [hA]; rfl
  have e2 : plG (whatS (b.drop a)) = 2 := by unfold plG; rw [e1, hG]; rfl
  have e3 : plI (whatS (b.drop a)) = 3 := by unfold plI; rw [e2, hI]; rfl
  have e4 : plV (whatS (b.drop a)) = 11 := by unfold plV; rw [e3, hV]; rfl
  refine ⟨?_, by unfold sizeS; rw [e4, hN]; rfl⟩
  unfold opS
  rw [e1, e2, e3, e4, hA, hG, hI, hV, hN]
  simp [List.drop_drop, List.getD_eq_getElem?_getD]
theorem op_pat4 {b : List Int} {a : Nat} (hA : hasPA (whatS (b.drop a)) = false) (hG : hasPG (whatS (b.drop a)) = false) (hI : hasPI (whatS (b.drop a)) = false) (hV : hasPV (whatS (b.drop a)) = false) (hN : hasPN (whatS (b.drop a)) = true) : opS (b.drop a) = ⟨whatS (b.drop a), decide (128 ≤ (b.drop a).getD 0 0), 0, 0, 0, 0, b.getD (a + 1) 0⟩ ∧ sizeS (whatS (b.drop a)) = 2 := by
  have e1 : plA (whatS (b.drop a)) = 1 := by unfold plA; rw [hA]; rfl
  have e2 : plG (whatS (b.drop a)) = 1 := by unfold plG; rw [e1, hG]; rfl
  have e3 : plI (whatS (b.drop a)) = 1 := by unfold plI; rw [e2, hI]; rfl
  have e4 : plV (whatS (b.drop a)) = 1 := by unfold plV; rw [e3, hV]; rfl
  refine ⟨?_, by unfold sizeS; rw [e4, hN]; rfl⟩
  unfold opS
  rw [e1, e2, e3, e4, hA, hG, hI, hV, hN]
  simp [List.getD_eq_getElem?_getD]

theorem can_small {b : List Int} (h : ¬ whatS b ≤ 8) : canS b = false := by unfold canS; rw [decide_eq_false h]; simp
theorem can_short2 {b : List Int} (h : b.length < sizeS (whatS b)) : canS b = false := by unfold canS; rw [decide_eq_false (p := sizeS (whatS b) ≤ b.length) (by omega)]; simp
theorem can_all {b : List Int} (h0 : 0 < b.length) (h8 : whatS b ≤ 8) (h : sizeS (whatS b) ≤ b.length) : canS b = rightS (opS b) := by unfold canS; rw [decide_eq_true h0, decide_eq_true h8, decide_eq_true h]; rfl

set_option maxRecDepth 100000 in
set_option maxHeartbeats 16000000 in
theorem RGet_any (A : Option Addr) (nn c : Nat) (b : List Int) (w : World) (hs : SlG (numE .u8) w A nn b) (hnc : nn ≤ c) (hb : nn ≤ 1000000) (hr : ∀ x ∈ b, 0 ≤ x ∧ x < 256) :
    Calls Try.prog 12 #[.slice A nn c] w fun e w' => ∃ A' c', e = .returned (.tuple #[.slice A' (getS b).1.length c', .int .i64 (getS b).2, .int .i64 (gotE b)]) ∧ LG opE w w' 31 (.slice A' (getS b).1.length c') (getS b).1 := by
  have hll := Lib.hid hs.len
  have hfew := getS_fewer b hr
  rw [hs.len] at hfew
  go_enter Try.func12, Try.ntmps12
  go_wp2_with fail
  go_loopg [5, 6, 8, 9] nn (fun gg s5 s6 s8 s9 wr => ∃ (a : Nat) (A' : Option Addr) (m' c' : Nat) (M : List Sop), a ≤ nn ∧ nn - a ≤ gg ∧ s5 = .slice A' m' c' ∧ s6 = .int .i64 (a : Nat) ∧ Aside (m' = M.length) ∧ Aside (LG opE w wr 31 (.slice A' m' c') M) ∧ Aside (AtS b a M))
  case atStart => exact ⟨0, none, 0, 0, [], by omega, by omega, rfl, rfl, rfl, LG.none_ w _, AtS.zero b⟩
  case round =>
    obtain ⟨a, A', m', c', M, ha, hg, rfl, rfl, hm, lg, hat⟩ := hrel
    replace lg := lg.out
    by_cases hlt : a < nn
    · obtain ⟨bl, off, f0, hAe, hbl, hx0, e0⟩ := SlN.get (hs.new lg.1) hlt
      have hf8 := hr f0 (List.mem_of_getElem? hx0)
      have hd0 : (b.drop a).getD 0 0 = f0 := by rw [List.getD_eq_getElem?_getD, List.getElem?_drop, Nat.add_zero, hx0]; rfl
      have hwt : f0 % 128 = whatS (b.drop a) := by unfold whatS; rw [hd0]
      have hut : decide (f0 ≥ 128) = decide (128 ≤ (b.drop a).getD 0 0) := by rw [hd0]
      have hxl : (b.drop a).length = nn - a := by rw [List.length_drop, hll.out]
      have hro := fun h => Lib.hid (hat.out.step h)
      have hno := fun h => Lib.hid (hat.out.stop h)
      have hgy := fun h => got_yes (b := b.drop a) h
      have hMf : canS (b.drop a) = true → M.length + 1 ≤ 1000000 := fun h => by have h2 := hat.out.step h; unfold AtS at h2; have h3 := congrArg (fun p => p.1.length) h2; simp at h3; omega
      have hend : canS (b.drop a) = false → gotE b = 12 := fun h => by unfold gotE; rw [hat.out.stop h, hll.out]; exact if_neg (by show ¬ a = nn; omega)
      have hcs := can_small (b := b.drop a)
      have hcs2 := can_short2 (b := b.drop a)
      have hcs3 := can_all (b := b.drop a) (by rw [hxl]; omega)
      rw [hxl] at hcs2 hcs3
      have hw0 : 0 ≤ whatS (b.drop a) ∧ whatS (b.drop a) < 128 := by omega
      have hpat := fun h8 => pats (w := whatS (b.drop a)) hw0.1 h8
      have hop0 := op_pat0 (b := b) (a := a)
      have hop1 := op_pat1 (b := b) (a := a)
      have hop2 := op_pat2 (b := b) (a := a)
      have hop3 := op_pat3 (b := b) (a := a)
      have hop4 := op_pat4 (b := b) (a := a)
      replace hx0 := Lib.hid hx0
      clear hd0 hat hfew
      replace hm := Lib.hid hm.out
      replace hxl := Lib.hid hxl
      generalize hwd : whatS (b.drop a) = wt at *
      replace hwd := Lib.hid hwd
      generalize hud : decide (128 ≤ (b.drop a).getD 0 0) = us at *
      replace hud := Lib.hid hud
      subst hAe
      have hwm : f0.tmod 128 = wt := by rw [Int.tmod_eq_emod_of_nonneg hf8.1]; exact hwt
      have hwi : IntKind.i64.wrap wt = wt := by rw [IntKind.wrap_i64]; omega
      have hcell : ∀ w', Chg [] wr w' → w'.cell? ⟨bl, off + a, none⟩ = some (.int .u8 f0) := fun w' hc => (hc.cell hbl (by simp)).trans e0
      go_wp2_with fail
      refine wp_region_noPanic ?_
      refine wp_region_held_drew (S := (fun w' => Chg [] wr w')) (by kernel_rfl) ?_ (fun hHeld => ?_)
      · exact (Chg.refl [] wr).drew
      (refine take_on 0 (some 14) (v := ?_) rfl rfl (by kernel_rfl) (by kernel_rfl) (by kernel_rfl) (fun _ _ _ h => h) (by rfl) (by assumption) ?_ ?_; rotate_left; · (intro w hSw; (try dsimp only at hSw); have q_ := hcell _ hSw; go_simp; (try with_reducible rfl)))
      (try simp only [Act.put, List.setIfInBounds_toArray, List.set_cons_zero, List.set_cons_succ])
      (refine take_on 1 (some 15) (v := ?_) rfl rfl (by kernel_rfl) (by kernel_rfl) (by kernel_rfl) (fun _ _ _ h => h) (by rfl) (by assumption) ?_ ?_; rotate_left; · (intro w hSw; (try dsimp only at hSw); have q_ := hcell _ hSw; go_simp; (try with_reducible rfl)))
      (try simp only [Act.put, List.setIfInBounds_toArray, List.set_cons_zero, List.set_cons_succ])
      (refine take_on 2 (some 16) (v := ?_) rfl rfl (by kernel_rfl) (by kernel_rfl) (by kernel_rfl) (fun _ _ _ h => h) (by rfl) (by assumption) ?_ ?_; rotate_left; · (intro w hSw; (try dsimp only at hSw); have q_ := hcell _ hSw; go_simp; (try with_reducible rfl)))
      (try simp only [Act.put, List.setIfInBounds_toArray, List.set_cons_zero, List.set_cons_succ])
      (refine take_on 3 (some 17) (v := ?_) rfl rfl (by kernel_rfl) (by kernel_rfl) (by kernel_rfl) (fun _ _ _ h => h) (by rfl) (by assumption) ?_ ?_; rotate_left; · (intro w hSw; (try dsimp only at hSw); have q_ := hcell _ hSw; go_simp; (try with_reducible rfl)))
      (try simp only [Act.put, List.setIfInBounds_toArray, List.set_cons_zero, List.set_cons_succ])
      (refine take_on 4 (some 18) (v := ?_) rfl rfl (by kernel_rfl) (by kernel_rfl) (by kernel_rfl) (fun _ _ _ h => h) (by rfl) (by assumption) ?_ ?_; rotate_left; · (intro w hSw; (try dsimp only at hSw); have q_ := hcell _ hSw; go_simp; (try with_reducible rfl)))
      (try simp only [Act.put, List.setIfInBounds_toArray, List.set_cons_zero, List.set_cons_succ])
      (refine take_on 5 (some 19) (v := ?_) rfl rfl (by kernel_rfl) (by kernel_rfl) (by kernel_rfl) (fun _ _ _ h => h) (by rfl) (by assumption) ?_ ?_; rotate_left; · (intro w hSw; (try dsimp only at hSw); have q_ := hcell _ hSw; go_simp; (try with_reducible rfl)))
      (try simp only [Act.put, List.setIfInBounds_toArray, List.set_cons_zero, List.set_cons_succ])
      (refine take_on 6 (some 20) (v := ?_) rfl rfl (by kernel_rfl) (by kernel_rfl) (by kernel_rfl) (fun _ _ _ h => h) (by rfl) (by assumption) ?_ ?_; rotate_left; · (intro w hSw; (try dsimp only at hSw); have q_ := hcell _ hSw; go_simp; (try with_reducible rfl)))
      (try simp only [Act.put, List.setIfInBounds_toArray, List.set_cons_zero, List.set_cons_succ])
      (refine take_on 7 (some 21) (v := ?_) rfl rfl (by kernel_rfl) (by kernel_rfl) (by kernel_rfl) (fun _ _ _ h => h) (by rfl) (by assumption) ?_ ?_; rotate_left; · (intro w hSw; (try dsimp only at hSw); have q_ := hcell _ hSw; go_simp; (try with_reducible rfl)))
      (try simp only [Act.put, List.setIfInBounds_toArray, List.set_cons_zero, List.set_cons_succ])
      (refine take_on 8 (some 22) (v := ?_) rfl rfl (by kernel_rfl) (by kernel_rfl) (by kernel_rfl) (fun _ _ _ h => h) (by rfl) (by assumption) ?_ ?_; rotate_left; · (intro w hSw; (try dsimp only at hSw); have q_ := hcell _ hSw; go_simp; (try with_reducible rfl)))
      (try simp only [Act.put, List.setIfInBounds_toArray, List.set_cons_zero, List.set_cons_succ])
      (refine take_on 9 (some 23) (v := ?_) rfl rfl (by kernel_rfl) (by kernel_rfl) (by kernel_rfl) (fun _ _ _ h => h) (by rfl) (by assumption) ?_ ?_; rotate_left; · (intro w hSw; (try dsimp only at hSw); have q_ := hcell _ hSw; go_simp; (try with_reducible rfl)))
      (try simp only [Act.put, List.setIfInBounds_toArray, List.set_cons_zero, List.set_cons_succ])
      (refine take_on 10 (some 24) (v := ?_) rfl rfl (by kernel_rfl) (by kernel_rfl) (by kernel_rfl) (fun _ _ _ h => h) (by rfl) (by assumption) ?_ ?_; rotate_left; · (intro w hSw; (try dsimp only at hSw); have q_ := hcell _ hSw; go_simp; (try with_reducible rfl)))
      (try simp only [Act.put, List.setIfInBounds_toArray, List.set_cons_zero, List.set_cons_succ])
      (refine take_on 11 (some 25) (v := ?_) rfl rfl (by kernel_rfl) (by kernel_rfl) (by kernel_rfl) (fun _ _ _ h => h) (by rfl) (by assumption) ?_ ?_; rotate_left; · (intro w hSw; (try dsimp only at hSw); have q_ := hcell _ hSw; go_simp; (try with_reducible rfl)))
      (try simp only [Act.put, List.setIfInBounds_toArray, List.set_cons_zero, List.set_cons_succ])
      refine wpAnyH_ready (rs := [12]) (by kernel_rfl) (by simp) ?_; refine AllReadyH.cons (o := _) rfl (fun K hK => ?_) AllReadyH.nil
      go_simp
      skip
      refine hK.out _ _ (by (try dsimp only); exact hHeld.alloc _) (fun hHeld => ?_)
      clear hK K
      (try simp only [Act.put, List.setIfInBounds_toArray, List.set_cons_zero, List.set_cons_succ])
      have k1 : Chg [] wr (wr.alloc (.cells #[.int .i64 0, .bool false, .int .u64 0, .int .u64 0, .int .i64 0, .int .i64 0, .int .i64 0] 31)).drew := ((Chg.refl [] wr).alloc _).drew
      have B := (Blk.new wr 31 #[.int .i64 0, .bool false, .int .u64 0, .int .u64 0, .int .i64 0, .int .i64 0, .int .i64 0]).drew
      generalize (wr.alloc (.cells #[.int .i64 0, .bool false, .int .u64 0, .int .u64 0, .int .i64 0, .int .i64 0, .int .i64 0] 31)).drew = w1 at *
      obtain ⟨g0, g1, g2, g3, g4, g5, g6⟩ := blk7f B
      obtain ⟨q0, q1, q2, q3, q4, q5, q6⟩ := blk7 B
      refine wpAnyH_ready (rs := [13]) (by kernel_rfl) (by simp) ?_; refine AllReadyH.cons (o := _) rfl (fun K hK => ?_) AllReadyH.nil
      go_simp
      skip
      refine hK.out _ _ (by (try dsimp only); exact chg7 (y0 := .int .i64 wt) (y1 := .bool us) (y2 := .int .u64 0) (y3 := .int .u64 0) (y4 := .int .i64 0) (y5 := .int .i64 0) (y6 := .int .i64 0) (g := wr.heap.size) hHeld (by intro h; omega)) (fun hHeld => ?_)
      clear hK K
      (try simp only [Act.put, List.setIfInBounds_toArray, List.set_cons_zero, List.set_cons_succ])
      refine wpAnyH_done (by kernel_rfl) ?_ _
      refine NoPanic.normal ?_
      have B2 := set7 (y0 := .int .i64 wt) (y1 := .bool us) (y2 := .int .u64 0) (y3 := .int .u64 0) (y4 := .int .i64 0) (y5 := .int .i64 0) (y6 := .int .i64 0) B
      have k2 : Chg [] wr _ := chg7 (y0 := .int .i64 wt) (y1 := .bool us) (y2 := .int .u64 0) (y3 := .int .u64 0) (y4 := .int .i64 0) (y5 := .int .i64 0) (y6 := .int .i64 0) (g := wr.heap.size) k1 (by intro h; omega)
      clear hHeld k1 B hcell g0 q0 g1 q1 g2 q2 g3 q3 g4 q4 g5 q5 g6 q6
      generalize ((((((w1.setCell ⟨wr.heap.size, 0, none⟩ (.int .i64 wt)).setCell ⟨wr.heap.size, 1, none⟩ (.bool us)).setCell ⟨wr.heap.size, 2, none⟩ (.int .u64 0)).setCell ⟨wr.heap.size, 3, none⟩ (.int .u64 0)).setCell ⟨wr.heap.size, 4, none⟩ (.int .i64 0)).setCell ⟨wr.heap.size, 5, none⟩ (.int .i64 0)).setCell ⟨wr.heap.size, 6, none⟩ (.int .i64 0) = w2 at *
      have hgb := B2.lt
      generalize hgp : wr.heap.size = gp at *
      replace hgp := Lib.hid hgp
      obtain ⟨q0, q1, q2, q3, q4, q5, q6⟩ := blk7 B2
      by_cases h8 : wt ≤ 8
      · clear hcs
        have hOne := fun w9 => ROne_any ⟨wt, us, 0, 0, 0, 0, 0⟩ ⟨by simp only; omega, by simp only; omega⟩ rfl hw0.1 h8 w9
        have hosz := oneS_len (o := ⟨wt, us, 0, 0, 0, 0, 0⟩)
        have hszle := oneS_le ⟨wt, us, 0, 0, 0, 0, 0⟩
        simp only at hosz
        rw [hosz] at hOne hszle
        generalize oneS ⟨wt, us, 0, 0, 0, 0, 0⟩ = os at *
        simp only [Sop.ar] at hOne
        clear hosz
        replace hcs3 := hcs3 h8
        replace hpat := hpat h8
        generalize hsz : sizeS wt = sz at *
        replace hsz := Lib.hid hsz
        go_wp2_with fail
        refine (hOne _).mono ?_; rintro e w3 ⟨A3, c3, rfl, lg3⟩
        clear hOne q0 q1 q2 q3 q4 q5 q6
        have k3 := k2.trans lg3.1 (by simp)
        replace B2 := lg3.1.blk B2 (by simp)
        clear lg3 k2
        obtain ⟨q0, q1, q2, q3, q4, q5, q6⟩ := blk7 B2
        have hsub : (nn : Int) - (a : Int) = ((nn - a : Nat) : Int) := by omega
        obtain ⟨rm, hrm⟩ : ∃ rm, rm = nn - a := ⟨_, rfl⟩
        rw [← hrm] at hcs2 hcs3 hsub
        replace hrm := Lib.hid hrm
        by_cases hfit : rm < sz
        · have hq := hno (hcs2 hfit)
          have hq2 := Lib.hid (hend (hcs2 hfit))
          clear hno hro hcs2 hcs3 hend hMf hgy hpat hop0 hop1 hop2 hop3 hop4 hgb
          go_wp2_with fail
          replace lg := lg.new k3
          exact bodyPost_ret (tmp_ret3 rfl _ _) rfl ⟨A', c', by rw [hq.out, hq2.out, show M.length = m' from hm.out.symm]; rfl, by rw [hq.out]; exact lg.len_ hm.out⟩
        · replace hcs3 := hcs3 (by omega)
          clear hcs2
          have hHA := fun w9 => RHas_any (show isD 65 by unfold isD; omega) wt w9
          rw [show hasC wt 65 = hasPA wt from rfl] at hHA
          have hHV := fun w9 => RHas_any (show isD 86 by unfold isD; omega) wt w9
          rw [show hasC wt 86 = hasPV wt from rfl] at hHV
          have hHG := fun w9 => RHas_any (show isD 71 by unfold isD; omega) wt w9
          rw [show hasC wt 71 = hasPG wt from rfl] at hHG
          have hHI := fun w9 => RHas_any (show isD 73 by unfold isD; omega) wt w9
          rw [show hasC wt 73 = hasPI wt from rfl] at hHI
          have hHN := fun w9 => RHas_any (show isD 78 by unfold isD; omega) wt w9
          rw [show hasC wt 78 = hasPN wt from rfl] at hHN
          rcases hpat with ⟨hpA, hpG, hpI, hpV, hpN⟩ | ⟨hpA, hpG, hpI, hpV, hpN⟩ | ⟨hpA, hpG, hpI, hpV, hpN⟩ | ⟨hpA, hpG, hpI, hpV, hpN⟩ | ⟨hpA, hpG, hpI, hpV, hpN⟩
          · obtain ⟨hop, hsz2⟩ := hop0 hpA hpG hpI hpV hpN
            clear hop1 hop2 hop3 hop4
            rw [hpA] at hHA
            rw [hpG] at hHG
            rw [hpI] at hHI
            rw [hpV] at hHV
            rw [hpN] at hHN
            clear hpA hpG hpI hpV hpN
            obtain rfl : sz = 9 := hsz2
            rw [hop] at hcs3
            replace hop := Lib.hid hop
            have hfits : a + 9 ≤ nn := by have := hrm.out; omega
            clear hfit hsub
            obtain ⟨j1, hj1⟩ : ∃ j, j ≤ a + 1 ∧ a + 1 ≤ j := ⟨a + 1, by omega, by omega⟩
            have hs1 : (a : Int) + 1 = (j1 : Int) := by omega
            have hwk1 : IntKind.i64.wrap (j1 : Int) = (j1 : Int) := by rw [IntKind.wrap_i64]; omega
            go_wp2_with fail
            refine (hHA _).mono ?_; rintro e yy ⟨rfl, rfl⟩
            clear hHA
            obtain ⟨j2, hj2⟩ : ∃ k, k ≤ j1 + 8 ∧ j1 + 8 ≤ k := ⟨j1 + 8, by omega, by omega⟩
            have hs2 : (j1 : Int) + 8 = (j2 : Int) := by omega
            have hwk2 : IntKind.i64.wrap (j2 : Int) = (j2 : Int) := by rw [IntKind.wrap_i64]; omega
            have hcut := run_cut (P := Try.prog) 23 5 1 Try.underlying23 size8 (some ⟨bl, off, none⟩) nn c j1 j2 (by omega) (by omega) w3
            have hNum := RNumber_any (cutA (some ⟨bl, off, none⟩) c j1 1) (c - j1) ((b.drop (a + 1)).take 8) w3 (by have h := (hs.new (lg.1.trans k3 (by simp))).cut j1 j2 (by omega) (by omega) hnc; rw [show j2 - j1 = 8 by omega, show j1 = a + 1 by omega] at h; rw [show j1 = a + 1 by omega]; exact h) (fun x hx => hr x (List.mem_of_mem_drop (List.mem_of_mem_take hx)))
            rw [show j2 - j1 = 8 by omega] at hcut
            generalize hvA : n8 ((b.drop (a + 1)).take 8) = valA at *
            replace hvA := Lib.hid hvA
            obtain ⟨g0, g1, g2, g3, g4, g5, g6⟩ := blk7f B2
            go_wp2_with fail
            refine hNum.mono ?_; rintro e yy ⟨rfl, rfl⟩
            clear hNum hcut
            go_wp2_with fail
            have E : Blk (w3.setCell ⟨gp, 2, none⟩ (.int .u64 valA)) gp 31 #[.int .i64 wt, .bool us, .int .u64 valA, .int .u64 0, .int .i64 0, .int .i64 0, .int .i64 0] := by have := B2.set_ 2 (.int .u64 valA); simpa using this
            replace k3 : Chg [] wr (w3.setCell ⟨gp, 2, none⟩ (.int .u64 valA)) := k3.setCell (p := ⟨gp, 2, none⟩) (fun h => absurd h (by show ¬ gp < wr.heap.size; rw [hgp.out]; omega)) _
            generalize w3.setCell ⟨gp, 2, none⟩ (.int .u64 valA) = w4 at *
            replace B2 := E
            clear E q0 g0 q1 g1 q2 g2 q3 g3 q4 g4 q5 g5 q6 g6
            obtain ⟨q0, q1, q2, q3, q4, q5, q6⟩ := blk7 B2
            refine (hHG _).mono ?_; rintro e yy ⟨rfl, rfl⟩
            clear hHG
            go_wp2_with fail
            refine (hHI _).mono ?_; rintro e yy ⟨rfl, rfl⟩
            clear hHI
            go_wp2_with fail
            refine (hHV _).mono ?_; rintro e yy ⟨rfl, rfl⟩
            clear hHV
            go_wp2_with fail
            refine (hHN _).mono ?_; rintro e yy ⟨rfl, rfl⟩
            clear hHN
            go_wp2_with fail
            have hR := fun w9 => RRight_any (⟨wt, us, valA, 0, 0, 0, 0⟩ : Sop) w9
            rw [← hcs3] at hR
            simp only [Sop.ar] at hR
            clear hcs3
            refine (hR _).mono ?_; rintro e w8 ⟨rfl, k8⟩
            clear hR q0 q1 q2 q3 q4 q5 q6
            replace k3 := k3.trans k8 (by simp)
            replace B2 := k8.blk B2 (by simp)
            clear k8
            obtain ⟨q0, q1, q2, q3, q4, q5, q6⟩ := blk7 B2
            have lg8 := lg.new k3
            cases hcan : canS (b.drop a) with
            | false =>
              have hq := hno hcan
              have hq2 := Lib.hid (hend hcan)
              clear hno hro hend hMf hgy
              go_wp2_with fail
              exact bodyPost_ret (tmp_ret3 rfl _ _) rfl ⟨A', c', by rw [hq.out, hq2.out, show M.length = m' from hm.out.symm]; rfl, by rw [hq.out]; exact lg8.len_ hm.out⟩
            | true =>
              have hq := hro hcan
              have hMl := hMf hcan
              obtain ⟨hgo, hgn⟩ := hgy hcan
              rw [hop.out] at hgo
              rw [hgo, hgn] at hq
              clear hno hro hend hMf hgy hcan hgo hgn
              have lg9 := lg8.new ((Chg.refl [] w8).alloc (.cells #[.int .i64 wt, .bool us, .int .u64 valA, .int .u64 0, .int .i64 0, .int .i64 0, .int .i64 0] 31))
              have hsum : (a : Int) + 9 = ((a + 9 : Nat) : Int) := by omega
              obtain ⟨a2, ha2⟩ : ∃ a2, a2 = a + 9 := ⟨_, rfl⟩
              rw [← ha2] at hsum hq
              replace ha2 := Lib.hid ha2
              have hwr2 : IntKind.i64.wrap (a2 : Int) = (a2 : Int) := by rw [IntKind.wrap_i64]; have := ha2.out; omega
              go_wp2_with (at_builtin; (refine wpList_append_G rfl _ _ 22 rfl 31 (.agg #[.int .i64 0, .bool false, .int .u64 0, .int .u64 0, .int .i64 0, .int .i64 0, .int .i64 0]) 56 Try.underlying22 (by kernel_rfl) (by kernel_rfl) (.slice A' m' c') M rfl lg9.2.1 (some ⟨w8.heap.size, 0, none⟩) 1 1 [(⟨wt, us, valA, 0, 0, 0, 0⟩ : Sop)] rfl (OwnG.src (E := opE) (OwnG.lit (L := [(⟨wt, us, valA, 0, 0, 0, 0⟩ : Sop)]) (Blk.new w8 31 #[.int .i64 wt, .bool us, .int .u64 valA, .int .u64 0, .int .i64 0, .int .i64 0, .int .i64 0]) (by simp))) rfl (by omega) ?_; intro v10 w10 ho10 hc10 hv10; obtain ⟨A10, c10, rfl, _, _⟩ := ho10.form))
              have lg10 := lg9.app ho10 hc10 hv10
              go_roundg (nn - a2)
              case measure => have := ha2.out; omega
              case rel => exact ⟨a2, A10, M.length + 1, c10, M ++ [(⟨wt, us, valA, 0, 0, 0, 0⟩ : Sop)], by have := ha2.out; omega, by omega, rfl, rfl, (by show M.length + 1 = _; simp), lg10.len_ (by simp), hq.out⟩
          · obtain ⟨hop, hsz2⟩ := hop1 hpA hpG hpI hpV hpN
            clear hop0 hop2 hop3 hop4
            rw [hpA] at hHA
            rw [hpG] at hHG
            rw [hpI] at hHI
            rw [hpV] at hHV
            rw [hpN] at hHN
            clear hpA hpG hpI hpV hpN
            obtain rfl : sz = 17 := hsz2
            rw [hop] at hcs3
            replace hop := Lib.hid hop
            have hfits : a + 17 ≤ nn := by have := hrm.out; omega
            clear hfit hsub
            obtain ⟨j1, hj1⟩ : ∃ j, j ≤ a + 1 ∧ a + 1 ≤ j := ⟨a + 1, by omega, by omega⟩
            have hs1 : (a : Int) + 1 = (j1 : Int) := by omega
            have hwk1 : IntKind.i64.wrap (j1 : Int) = (j1 : Int) := by rw [IntKind.wrap_i64]; omega
            go_wp2_with fail
            refine (hHA _).mono ?_; rintro e yy ⟨rfl, rfl⟩
            clear hHA
            obtain ⟨j2, hj2⟩ : ∃ k, k ≤ j1 + 8 ∧ j1 + 8 ≤ k := ⟨j1 + 8, by omega, by omega⟩
            have hs2 : (j1 : Int) + 8 = (j2 : Int) := by omega
            have hwk2 : IntKind.i64.wrap (j2 : Int) = (j2 : Int) := by rw [IntKind.wrap_i64]; omega
            have hcut := run_cut (P := Try.prog) 23 5 1 Try.underlying23 size8 (some ⟨bl, off, none⟩) nn c j1 j2 (by omega) (by omega) w3
            have hNum := RNumber_any (cutA (some ⟨bl, off, none⟩) c j1 1) (c - j1) ((b.drop (a + 1)).take 8) w3 (by have h := (hs.new (lg.1.trans k3 (by simp))).cut j1 j2 (by omega) (by omega) hnc; rw [show j2 - j1 = 8 by omega, show j1 = a + 1 by omega] at h; rw [show j1 = a + 1 by omega]; exact h) (fun x hx => hr x (List.mem_of_mem_drop (List.mem_of_mem_take hx)))
            rw [show j2 - j1 = 8 by omega] at hcut
            generalize hvA : n8 ((b.drop (a + 1)).take 8) = valA at *
            replace hvA := Lib.hid hvA
            obtain ⟨g0, g1, g2, g3, g4, g5, g6⟩ := blk7f B2
            go_wp2_with fail
            refine hNum.mono ?_; rintro e yy ⟨rfl, rfl⟩
            clear hNum hcut
            go_wp2_with fail
            have E : Blk (w3.setCell ⟨gp, 2, none⟩ (.int .u64 valA)) gp 31 #[.int .i64 wt, .bool us, .int .u64 valA, .int .u64 0, .int .i64 0, .int .i64 0, .int .i64 0] := by have := B2.set_ 2 (.int .u64 valA); simpa using this
            replace k3 : Chg [] wr (w3.setCell ⟨gp, 2, none⟩ (.int .u64 valA)) := k3.setCell (p := ⟨gp, 2, none⟩) (fun h => absurd h (by show ¬ gp < wr.heap.size; rw [hgp.out]; omega)) _
            generalize w3.setCell ⟨gp, 2, none⟩ (.int .u64 valA) = w4 at *
            replace B2 := E
            clear E q0 g0 q1 g1 q2 g2 q3 g3 q4 g4 q5 g5 q6 g6
            obtain ⟨q0, q1, q2, q3, q4, q5, q6⟩ := blk7 B2
            refine (hHG _).mono ?_; rintro e yy ⟨rfl, rfl⟩
            clear hHG
            go_wp2_with fail
            refine (hHI _).mono ?_; rintro e yy ⟨rfl, rfl⟩
            clear hHI
            go_wp2_with fail
            refine (hHV _).mono ?_; rintro e yy ⟨rfl, rfl⟩
            clear hHV
            obtain ⟨j3, hj3⟩ : ∃ k, k ≤ j2 + 8 ∧ j2 + 8 ≤ k := ⟨j2 + 8, by omega, by omega⟩
            have hs3 : (j2 : Int) + 8 = (j3 : Int) := by omega
            have hwk3 : IntKind.i64.wrap (j3 : Int) = (j3 : Int) := by rw [IntKind.wrap_i64]; omega
            have hcut := run_cut (P := Try.prog) 23 5 1 Try.underlying23 size8 (some ⟨bl, off, none⟩) nn c j2 j3 (by omega) (by omega) w4
            have hNum := RNumber_any (cutA (some ⟨bl, off, none⟩) c j2 1) (c - j2) ((b.drop (a + 9)).take 8) w4 (by have h := (hs.new (lg.1.trans k3 (by simp))).cut j2 j3 (by omega) (by omega) hnc; rw [show j3 - j2 = 8 by omega, show j2 = a + 9 by omega] at h; rw [show j2 = a + 9 by omega]; exact h) (fun x hx => hr x (List.mem_of_mem_drop (List.mem_of_mem_take hx)))
            rw [show j3 - j2 = 8 by omega] at hcut
            generalize hvV : n8 ((b.drop (a + 9)).take 8) = valV at *
            replace hvV := Lib.hid hvV
            obtain ⟨g0, g1, g2, g3, g4, g5, g6⟩ := blk7f B2
            go_wp2_with fail
            refine hNum.mono ?_; rintro e yy ⟨rfl, rfl⟩
            clear hNum hcut
            go_wp2_with fail
            have E : Blk (w4.setCell ⟨gp, 3, none⟩ (.int .u64 valV)) gp 31 #[.int .i64 wt, .bool us, .int .u64 valA, .int .u64 valV, .int .i64 0, .int .i64 0, .int .i64 0] := by have := B2.set_ 3 (.int .u64 valV); simpa using this
            replace k3 : Chg [] wr (w4.setCell ⟨gp, 3, none⟩ (.int .u64 valV)) := k3.setCell (p := ⟨gp, 3, none⟩) (fun h => absurd h (by show ¬ gp < wr.heap.size; rw [hgp.out]; omega)) _
            generalize w4.setCell ⟨gp, 3, none⟩ (.int .u64 valV) = w5 at *
            replace B2 := E
            clear E q0 g0 q1 g1 q2 g2 q3 g3 q4 g4 q5 g5 q6 g6
            obtain ⟨q0, q1, q2, q3, q4, q5, q6⟩ := blk7 B2
            refine (hHN _).mono ?_; rintro e yy ⟨rfl, rfl⟩
            clear hHN
            go_wp2_with fail
            have hR := fun w9 => RRight_any (⟨wt, us, valA, valV, 0, 0, 0⟩ : Sop) w9
            rw [← hcs3] at hR
            simp only [Sop.ar] at hR
            clear hcs3
            refine (hR _).mono ?_; rintro e w8 ⟨rfl, k8⟩
            clear hR q0 q1 q2 q3 q4 q5 q6
            replace k3 := k3.trans k8 (by simp)
            replace B2 := k8.blk B2 (by simp)
            clear k8
            obtain ⟨q0, q1, q2, q3, q4, q5, q6⟩ := blk7 B2
            have lg8 := lg.new k3
            cases hcan : canS (b.drop a) with
            | false =>
              have hq := hno hcan
              have hq2 := Lib.hid (hend hcan)
              clear hno hro hend hMf hgy
              go_wp2_with fail
              exact bodyPost_ret (tmp_ret3 rfl _ _) rfl ⟨A', c', by rw [hq.out, hq2.out, show M.length = m' from hm.out.symm]; rfl, by rw [hq.out]; exact lg8.len_ hm.out⟩
            | true =>
              have hq := hro hcan
              have hMl := hMf hcan
              obtain ⟨hgo, hgn⟩ := hgy hcan
              rw [hop.out] at hgo
              rw [hgo, hgn] at hq
              clear hno hro hend hMf hgy hcan hgo hgn
              have lg9 := lg8.new ((Chg.refl [] w8).alloc (.cells #[.int .i64 wt, .bool us, .int .u64 valA, .int .u64 valV, .int .i64 0, .int .i64 0, .int .i64 0] 31))
              have hsum : (a : Int) + 17 = ((a + 17 : Nat) : Int) := by omega
              obtain ⟨a2, ha2⟩ : ∃ a2, a2 = a + 17 := ⟨_, rfl⟩
              rw [← ha2] at hsum hq
              replace ha2 := Lib.hid ha2
              have hwr2 : IntKind.i64.wrap (a2 : Int) = (a2 : Int) := by rw [IntKind.wrap_i64]; have := ha2.out; omega
              go_wp2_with (at_builtin; (refine wpList_append_G rfl _ _ 22 rfl 31 (.agg #[.int .i64 0, .bool false, .int .u64 0, .int .u64 0, .int .i64 0, .int .i64 0, .int .i64 0]) 56 Try.underlying22 (by kernel_rfl) (by kernel_rfl) (.slice A' m' c') M rfl lg9.2.1 (some ⟨w8.heap.size, 0, none⟩) 1 1 [(⟨wt, us, valA, valV, 0, 0, 0⟩ : Sop)] rfl (OwnG.src (E := opE) (OwnG.lit (L := [(⟨wt, us, valA, valV, 0, 0, 0⟩ : Sop)]) (Blk.new w8 31 #[.int .i64 wt, .bool us, .int .u64 valA, .int .u64 valV, .int .i64 0, .int .i64 0, .int .i64 0]) (by simp))) rfl (by omega) ?_; intro v10 w10 ho10 hc10 hv10; obtain ⟨A10, c10, rfl, _, _⟩ := ho10.form))
              have lg10 := lg9.app ho10 hc10 hv10
              go_roundg (nn - a2)
              case measure => have := ha2.out; omega
              case rel => exact ⟨a2, A10, M.length + 1, c10, M ++ [(⟨wt, us, valA, valV, 0, 0, 0⟩ : Sop)], by have := ha2.out; omega, by omega, rfl, rfl, (by show M.length + 1 = _; simp), lg10.len_ (by simp), hq.out⟩
          · obtain ⟨hop, hsz2⟩ := hop2 hpA hpG hpI hpV hpN
            clear hop0 hop1 hop3 hop4
            rw [hpA] at hHA
            rw [hpG] at hHG
            rw [hpI] at hHI
            rw [hpV] at hHV
            rw [hpN] at hHN
            clear hpA hpG hpI hpV hpN
            obtain rfl : sz = 2 := hsz2
            rw [hop] at hcs3
            replace hop := Lib.hid hop
            have hfits : a + 2 ≤ nn := by have := hrm.out; omega
            clear hfit hsub
            obtain ⟨j1, hj1⟩ : ∃ j, j ≤ a + 1 ∧ a + 1 ≤ j := ⟨a + 1, by omega, by omega⟩
            have hs1 : (a : Int) + 1 = (j1 : Int) := by omega
            have hwk1 : IntKind.i64.wrap (j1 : Int) = (j1 : Int) := by rw [IntKind.wrap_i64]; omega
            go_wp2_with fail
            refine (hHA _).mono ?_; rintro e yy ⟨rfl, rfl⟩
            clear hHA
            go_wp2_with fail
            refine (hHG _).mono ?_; rintro e yy ⟨rfl, rfl⟩
            clear hHG
            obtain ⟨j2, hj2⟩ : ∃ k, k ≤ j1 + 1 ∧ j1 + 1 ≤ k := ⟨j1 + 1, by omega, by omega⟩
            have hs2 : (j1 : Int) + 1 = (j2 : Int) := by omega
            have hwk2 : IntKind.i64.wrap (j2 : Int) = (j2 : Int) := by rw [IntKind.wrap_i64]; omega
            obtain ⟨bl', off', valG, hAe, hbl', hxv, ev⟩ := SlN.get (hs.new (lg.1.trans k3 (by simp))) (i := j1) (by omega)
            injection hAe with hAe; injection hAe with hAe1 hAe2; subst hAe1; subst hAe2
            have hvG : b.getD (a + 1) 0 = valG := by rw [List.getD_eq_getElem?_getD, show a + 1 = j1 by omega, hxv]; rfl
            have hv8 := hr valG (List.mem_of_getElem? hxv)
            have hvw : IntKind.i64.wrap valG = valG := by rw [IntKind.wrap_i64]; omega
            clear hxv hbl'
            skip
            replace hvG := Lib.hid hvG
            obtain ⟨g0, g1, g2, g3, g4, g5, g6⟩ := blk7f B2
            have hkl : j1 < nn := by omega
            go_wp2_with fail
            clear ev hv8 hvw hkl
            have E : Blk (w3.setCell ⟨gp, 4, none⟩ (.int .i64 valG)) gp 31 #[.int .i64 wt, .bool us, .int .u64 0, .int .u64 0, .int .i64 valG, .int .i64 0, .int .i64 0] := by have := B2.set_ 4 (.int .i64 valG); simpa using this
            replace k3 : Chg [] wr (w3.setCell ⟨gp, 4, none⟩ (.int .i64 valG)) := k3.setCell (p := ⟨gp, 4, none⟩) (fun h => absurd h (by show ¬ gp < wr.heap.size; rw [hgp.out]; omega)) _
            generalize w3.setCell ⟨gp, 4, none⟩ (.int .i64 valG) = w4 at *
            replace B2 := E
            clear E q0 g0 q1 g1 q2 g2 q3 g3 q4 g4 q5 g5 q6 g6
            obtain ⟨q0, q1, q2, q3, q4, q5, q6⟩ := blk7 B2
            refine (hHI _).mono ?_; rintro e yy ⟨rfl, rfl⟩
            clear hHI
            go_wp2_with fail
            refine (hHV _).mono ?_; rintro e yy ⟨rfl, rfl⟩
            clear hHV
            go_wp2_with fail
            refine (hHN _).mono ?_; rintro e yy ⟨rfl, rfl⟩
            clear hHN
            go_wp2_with fail
            rw [hvG.out] at hcs3
            have hR := fun w9 => RRight_any (⟨wt, us, 0, 0, valG, 0, 0⟩ : Sop) w9
            rw [← hcs3] at hR
            simp only [Sop.ar] at hR
            clear hcs3
            refine (hR _).mono ?_; rintro e w8 ⟨rfl, k8⟩
            clear hR q0 q1 q2 q3 q4 q5 q6
            replace k3 := k3.trans k8 (by simp)
            replace B2 := k8.blk B2 (by simp)
            clear k8
            obtain ⟨q0, q1, q2, q3, q4, q5, q6⟩ := blk7 B2
            have lg8 := lg.new k3
            cases hcan : canS (b.drop a) with
            | false =>
              have hq := hno hcan
              have hq2 := Lib.hid (hend hcan)
              clear hno hro hend hMf hgy
              go_wp2_with fail
              exact bodyPost_ret (tmp_ret3 rfl _ _) rfl ⟨A', c', by rw [hq.out, hq2.out, show M.length = m' from hm.out.symm]; rfl, by rw [hq.out]; exact lg8.len_ hm.out⟩
            | true =>
              have hq := hro hcan
              have hMl := hMf hcan
              obtain ⟨hgo, hgn⟩ := hgy hcan
              rw [hop.out] at hgo
              rw [hvG.out] at hgo
              rw [hgo, hgn] at hq
              clear hno hro hend hMf hgy hcan hgo hgn
              have lg9 := lg8.new ((Chg.refl [] w8).alloc (.cells #[.int .i64 wt, .bool us, .int .u64 0, .int .u64 0, .int .i64 valG, .int .i64 0, .int .i64 0] 31))
              have hsum : (a : Int) + 2 = ((a + 2 : Nat) : Int) := by omega
              obtain ⟨a2, ha2⟩ : ∃ a2, a2 = a + 2 := ⟨_, rfl⟩
              rw [← ha2] at hsum hq
              replace ha2 := Lib.hid ha2
              have hwr2 : IntKind.i64.wrap (a2 : Int) = (a2 : Int) := by rw [IntKind.wrap_i64]; have := ha2.out; omega
              go_wp2_with (at_builtin; (refine wpList_append_G rfl _ _ 22 rfl 31 (.agg #[.int .i64 0, .bool false, .int .u64 0, .int .u64 0, .int .i64 0, .int .i64 0, .int .i64 0]) 56 Try.underlying22 (by kernel_rfl) (by kernel_rfl) (.slice A' m' c') M rfl lg9.2.1 (some ⟨w8.heap.size, 0, none⟩) 1 1 [(⟨wt, us, 0, 0, valG, 0, 0⟩ : Sop)] rfl (OwnG.src (E := opE) (OwnG.lit (L := [(⟨wt, us, 0, 0, valG, 0, 0⟩ : Sop)]) (Blk.new w8 31 #[.int .i64 wt, .bool us, .int .u64 0, .int .u64 0, .int .i64 valG, .int .i64 0, .int .i64 0]) (by simp))) rfl (by omega) ?_; intro v10 w10 ho10 hc10 hv10; obtain ⟨A10, c10, rfl, _, _⟩ := ho10.form))
              have lg10 := lg9.app ho10 hc10 hv10
              go_roundg (nn - a2)
              case measure => have := ha2.out; omega
              case rel => exact ⟨a2, A10, M.length + 1, c10, M ++ [(⟨wt, us, 0, 0, valG, 0, 0⟩ : Sop)], by have := ha2.out; omega, by omega, rfl, rfl, (by show M.length + 1 = _; simp), lg10.len_ (by simp), hq.out⟩
          · obtain ⟨hop, hsz2⟩ := hop3 hpA hpG hpI hpV hpN
            clear hop0 hop1 hop2 hop4
            rw [hpA] at hHA
            rw [hpG] at hHG
            rw [hpI] at hHI
            rw [hpV] at hHV
            rw [hpN] at hHN
            clear hpA hpG hpI hpV hpN
            obtain rfl : sz = 11 := hsz2
            rw [hop] at hcs3
            replace hop := Lib.hid hop
            have hfits : a + 11 ≤ nn := by have := hrm.out; omega
            clear hfit hsub
            obtain ⟨j1, hj1⟩ : ∃ j, j ≤ a + 1 ∧ a + 1 ≤ j := ⟨a + 1, by omega, by omega⟩
            have hs1 : (a : Int) + 1 = (j1 : Int) := by omega
            have hwk1 : IntKind.i64.wrap (j1 : Int) = (j1 : Int) := by rw [IntKind.wrap_i64]; omega
            go_wp2_with fail
            refine (hHA _).mono ?_; rintro e yy ⟨rfl, rfl⟩
            clear hHA
            go_wp2_with fail
            refine (hHG _).mono ?_; rintro e yy ⟨rfl, rfl⟩
            clear hHG
            obtain ⟨j2, hj2⟩ : ∃ k, k ≤ j1 + 1 ∧ j1 + 1 ≤ k := ⟨j1 + 1, by omega, by omega⟩
            have hs2 : (j1 : Int) + 1 = (j2 : Int) := by omega
            have hwk2 : IntKind.i64.wrap (j2 : Int) = (j2 : Int) := by rw [IntKind.wrap_i64]; omega
            obtain ⟨bl', off', valG, hAe, hbl', hxv, ev⟩ := SlN.get (hs.new (lg.1.trans k3 (by simp))) (i := j1) (by omega)
            injection hAe with hAe; injection hAe with hAe1 hAe2; subst hAe1; subst hAe2
            have hvG : b.getD (a + 1) 0 = valG := by rw [List.getD_eq_getElem?_getD, show a + 1 = j1 by omega, hxv]; rfl
            have hv8 := hr valG (List.mem_of_getElem? hxv)
            have hvw : IntKind.i64.wrap valG = valG := by rw [IntKind.wrap_i64]; omega
            clear hxv hbl'
            skip
            replace hvG := Lib.hid hvG
            obtain ⟨g0, g1, g2, g3, g4, g5, g6⟩ := blk7f B2
            have hkl : j1 < nn := by omega
            go_wp2_with fail
            clear ev hv8 hvw hkl
            have E : Blk (w3.setCell ⟨gp, 4, none⟩ (.int .i64 valG)) gp 31 #[.int .i64 wt, .bool us, .int .u64 0, .int .u64 0, .int .i64 valG, .int .i64 0, .int .i64 0] := by have := B2.set_ 4 (.int .i64 valG); simpa using this
            replace k3 : Chg [] wr (w3.setCell ⟨gp, 4, none⟩ (.int .i64 valG)) := k3.setCell (p := ⟨gp, 4, none⟩) (fun h => absurd h (by show ¬ gp < wr.heap.size; rw [hgp.out]; omega)) _
            generalize w3.setCell ⟨gp, 4, none⟩ (.int .i64 valG) = w4 at *
            replace B2 := E
            clear E q0 g0 q1 g1 q2 g2 q3 g3 q4 g4 q5 g5 q6 g6
            obtain ⟨q0, q1, q2, q3, q4, q5, q6⟩ := blk7 B2
            refine (hHI _).mono ?_; rintro e yy ⟨rfl, rfl⟩
            clear hHI
            obtain ⟨j3, hj3⟩ : ∃ k, k ≤ j2 + 1 ∧ j2 + 1 ≤ k := ⟨j2 + 1, by omega, by omega⟩
            have hs3 : (j2 : Int) + 1 = (j3 : Int) := by omega
            have hwk3 : IntKind.i64.wrap (j3 : Int) = (j3 : Int) := by rw [IntKind.wrap_i64]; omega
            obtain ⟨bl', off', valI, hAe, hbl', hxv, ev⟩ := SlN.get (hs.new (lg.1.trans k3 (by simp))) (i := j2) (by omega)
            injection hAe with hAe; injection hAe with hAe1 hAe2; subst hAe1; subst hAe2
            have hvI : b.getD (a + 2) 0 = valI := by rw [List.getD_eq_getElem?_getD, show a + 2 = j2 by omega, hxv]; rfl
            have hv8 := hr valI (List.mem_of_getElem? hxv)
            have hvw : IntKind.i64.wrap valI = valI := by rw [IntKind.wrap_i64]; omega
            clear hxv hbl'
            skip
            replace hvI := Lib.hid hvI
            obtain ⟨g0, g1, g2, g3, g4, g5, g6⟩ := blk7f B2
            have hkl : j2 < nn := by omega
            go_wp2_with fail
            clear ev hv8 hvw hkl
            have E : Blk (w4.setCell ⟨gp, 5, none⟩ (.int .i64 valI)) gp 31 #[.int .i64 wt, .bool us, .int .u64 0, .int .u64 0, .int .i64 valG, .int .i64 valI, .int .i64 0] := by have := B2.set_ 5 (.int .i64 valI); simpa using this
            replace k3 : Chg [] wr (w4.setCell ⟨gp, 5, none⟩ (.int .i64 valI)) := k3.setCell (p := ⟨gp, 5, none⟩) (fun h => absurd h (by show ¬ gp < wr.heap.size; rw [hgp.out]; omega)) _
            generalize w4.setCell ⟨gp, 5, none⟩ (.int .i64 valI) = w5 at *
            replace B2 := E
            clear E q0 g0 q1 g1 q2 g2 q3 g3 q4 g4 q5 g5 q6 g6
            obtain ⟨q0, q1, q2, q3, q4, q5, q6⟩ := blk7 B2
            refine (hHV _).mono ?_; rintro e yy ⟨rfl, rfl⟩
            clear hHV
            obtain ⟨j4, hj4⟩ : ∃ k, k ≤ j3 + 8 ∧ j3 + 8 ≤ k := ⟨j3 + 8, by omega, by omega⟩
            have hs4 : (j3 : Int) + 8 = (j4 : Int) := by omega
            have hwk4 : IntKind.i64.wrap (j4 : Int) = (j4 : Int) := by rw [IntKind.wrap_i64]; omega
            have hcut := run_cut (P := Try.prog) 23 5 1 Try.underlying23 size8 (some ⟨bl, off, none⟩) nn c j3 j4 (by omega) (by omega) w5
            have hNum := RNumber_any (cutA (some ⟨bl, off, none⟩) c j3 1) (c - j3) ((b.drop (a + 3)).take 8) w5 (by have h := (hs.new (lg.1.trans k3 (by simp))).cut j3 j4 (by omega) (by omega) hnc; rw [show j4 - j3 = 8 by omega, show j3 = a + 3 by omega] at h; rw [show j3 = a + 3 by omega]; exact h) (fun x hx => hr x (List.mem_of_mem_drop (List.mem_of_mem_take hx)))
            rw [show j4 - j3 = 8 by omega] at hcut
            generalize hvV : n8 ((b.drop (a + 3)).take 8) = valV at *
            replace hvV := Lib.hid hvV
            obtain ⟨g0, g1, g2, g3, g4, g5, g6⟩ := blk7f B2
            go_wp2_with fail
            refine hNum.mono ?_; rintro e yy ⟨rfl, rfl⟩
            clear hNum hcut
            go_wp2_with fail
            have E : Blk (w5.setCell ⟨gp, 3, none⟩ (.int .u64 valV)) gp 31 #[.int .i64 wt, .bool us, .int .u64 0, .int .u64 valV, .int .i64 valG, .int .i64 valI, .int .i64 0] := by have := B2.set_ 3 (.int .u64 valV); simpa using this
            replace k3 : Chg [] wr (w5.setCell ⟨gp, 3, none⟩ (.int .u64 valV)) := k3.setCell (p := ⟨gp, 3, none⟩) (fun h => absurd h (by show ¬ gp < wr.heap.size; rw [hgp.out]; omega)) _
            generalize w5.setCell ⟨gp, 3, none⟩ (.int .u64 valV) = w6 at *
            replace B2 := E
            clear E q0 g0 q1 g1 q2 g2 q3 g3 q4 g4 q5 g5 q6 g6
            obtain ⟨q0, q1, q2, q3, q4, q5, q6⟩ := blk7 B2
            refine (hHN _).mono ?_; rintro e yy ⟨rfl, rfl⟩
            clear hHN
            go_wp2_with fail
            rw [hvG.out] at hcs3
            rw [hvI.out] at hcs3
            have hR := fun w9 => RRight_any (⟨wt, us, 0, valV, valG, valI, 0⟩ : Sop) w9
            rw [← hcs3] at hR
            simp only [Sop.ar] at hR
            clear hcs3
            refine (hR _).mono ?_; rintro e w8 ⟨rfl, k8⟩
            clear hR q0 q1 q2 q3 q4 q5 q6
            replace k3 := k3.trans k8 (by simp)
            replace B2 := k8.blk B2 (by simp)
            clear k8
            obtain ⟨q0, q1, q2, q3, q4, q5, q6⟩ := blk7 B2
            have lg8 := lg.new k3
            cases hcan : canS (b.drop a) with
            | false =>
              have hq := hno hcan
              have hq2 := Lib.hid (hend hcan)
              clear hno hro hend hMf hgy
              go_wp2_with fail
              exact bodyPost_ret (tmp_ret3 rfl _ _) rfl ⟨A', c', by rw [hq.out, hq2.out, show M.length = m' from hm.out.symm]; rfl, by rw [hq.out]; exact lg8.len_ hm.out⟩
            | true =>
              have hq := hro hcan
              have hMl := hMf hcan
              obtain ⟨hgo, hgn⟩ := hgy hcan
              rw [hop.out] at hgo
              rw [hvG.out] at hgo
              rw [hvI.out] at hgo
              rw [hgo, hgn] at hq
              clear hno hro hend hMf hgy hcan hgo hgn
              have lg9 := lg8.new ((Chg.refl [] w8).alloc (.cells #[.int .i64 wt, .bool us, .int .u64 0, .int .u64 valV, .int .i64 valG, .int .i64 valI, .int .i64 0] 31))
              have hsum : (a : Int) + 11 = ((a + 11 : Nat) : Int) := by omega
              obtain ⟨a2, ha2⟩ : ∃ a2, a2 = a + 11 := ⟨_, rfl⟩
              rw [← ha2] at hsum hq
              replace ha2 := Lib.hid ha2
              have hwr2 : IntKind.i64.wrap (a2 : Int) = (a2 : Int) := by rw [IntKind.wrap_i64]; have := ha2.out; omega
              go_wp2_with (at_builtin; (refine wpList_append_G rfl _ _ 22 rfl 31 (.agg #[.int .i64 0, .bool false, .int .u64 0, .int .u64 0, .int .i64 0, .int .i64 0, .int .i64 0]) 56 Try.underlying22 (by kernel_rfl) (by kernel_rfl) (.slice A' m' c') M rfl lg9.2.1 (some ⟨w8.heap.size, 0, none⟩) 1 1 [(⟨wt, us, 0, valV, valG, valI, 0⟩ : Sop)] rfl (OwnG.src (E := opE) (OwnG.lit (L := [(⟨wt, us, 0, valV, valG, valI, 0⟩ : Sop)]) (Blk.new w8 31 #[.int .i64 wt, .bool us, .int .u64 0, .int .u64 valV, .int .i64 valG, .int .i64 valI, .int .i64 0]) (by simp))) rfl (by omega) ?_; intro v10 w10 ho10 hc10 hv10; obtain ⟨A10, c10, rfl, _, _⟩ := ho10.form))
              have lg10 := lg9.app ho10 hc10 hv10
              go_roundg (nn - a2)
              case measure => have := ha2.out; omega
              case rel => exact ⟨a2, A10, M.length + 1, c10, M ++ [(⟨wt, us, 0, valV, valG, valI, 0⟩ : Sop)], by have := ha2.out; omega, by omega, rfl, rfl, (by show M.length + 1 = _; simp), lg10.len_ (by simp), hq.out⟩
          · obtain ⟨hop, hsz2⟩ := hop4 hpA hpG hpI hpV hpN
            clear hop0 hop1 hop2 hop3
            rw [hpA] at hHA
            rw [hpG] at hHG
            rw [hpI] at hHI
            rw [hpV] at hHV
            rw [hpN] at hHN
            clear hpA hpG hpI hpV hpN
            obtain rfl : sz = 2 := hsz2
            rw [hop] at hcs3
            replace hop := Lib.hid hop
            have hfits : a + 2 ≤ nn := by have := hrm.out; omega
            clear hfit hsub
            obtain ⟨j1, hj1⟩ : ∃ j, j ≤ a + 1 ∧ a + 1 ≤ j := ⟨a + 1, by omega, by omega⟩
            have hs1 : (a : Int) + 1 = (j1 : Int) := by omega
            have hwk1 : IntKind.i64.wrap (j1 : Int) = (j1 : Int) := by rw [IntKind.wrap_i64]; omega
            go_wp2_with fail
            refine (hHA _).mono ?_; rintro e yy ⟨rfl, rfl⟩
            clear hHA
            go_wp2_with fail
            refine (hHG _).mono ?_; rintro e yy ⟨rfl, rfl⟩
            clear hHG
            go_wp2_with fail
            refine (hHI _).mono ?_; rintro e yy ⟨rfl, rfl⟩
            clear hHI
            go_wp2_with fail
            refine (hHV _).mono ?_; rintro e yy ⟨rfl, rfl⟩
            clear hHV
            go_wp2_with fail
            refine (hHN _).mono ?_; rintro e yy ⟨rfl, rfl⟩
            clear hHN
            obtain ⟨j2, hj2⟩ : ∃ k, k ≤ j1 + 1 ∧ j1 + 1 ≤ k := ⟨j1 + 1, by omega, by omega⟩
            have hs2 : (j1 : Int) + 1 = (j2 : Int) := by omega
            have hwk2 : IntKind.i64.wrap (j2 : Int) = (j2 : Int) := by rw [IntKind.wrap_i64]; omega
            obtain ⟨bl', off', valN, hAe, hbl', hxv, ev⟩ := SlN.get (hs.new (lg.1.trans k3 (by simp))) (i := j1) (by omega)
            injection hAe with hAe; injection hAe with hAe1 hAe2; subst hAe1; subst hAe2
            have hvN : b.getD (a + 1) 0 = valN := by rw [List.getD_eq_getElem?_getD, show a + 1 = j1 by omega, hxv]; rfl
            have hv8 := hr valN (List.mem_of_getElem? hxv)
            have hvw : IntKind.i64.wrap valN = valN := by rw [IntKind.wrap_i64]; omega
            clear hxv hbl'
            skip
            replace hvN := Lib.hid hvN
            obtain ⟨g0, g1, g2, g3, g4, g5, g6⟩ := blk7f B2
            have hkl : j1 < nn := by omega
            go_wp2_with fail
            clear ev hv8 hvw hkl
            have E : Blk (w3.setCell ⟨gp, 6, none⟩ (.int .i64 valN)) gp 31 #[.int .i64 wt, .bool us, .int .u64 0, .int .u64 0, .int .i64 0, .int .i64 0, .int .i64 valN] := by have := B2.set_ 6 (.int .i64 valN); simpa using this
            replace k3 : Chg [] wr (w3.setCell ⟨gp, 6, none⟩ (.int .i64 valN)) := k3.setCell (p := ⟨gp, 6, none⟩) (fun h => absurd h (by show ¬ gp < wr.heap.size; rw [hgp.out]; omega)) _
            generalize w3.setCell ⟨gp, 6, none⟩ (.int .i64 valN) = w4 at *
            replace B2 := E
            clear E q0 g0 q1 g1 q2 g2 q3 g3 q4 g4 q5 g5 q6 g6
            obtain ⟨q0, q1, q2, q3, q4, q5, q6⟩ := blk7 B2
            rw [hvN.out] at hcs3
            have hR := fun w9 => RRight_any (⟨wt, us, 0, 0, 0, 0, valN⟩ : Sop) w9
            rw [← hcs3] at hR
            simp only [Sop.ar] at hR
            clear hcs3
            refine (hR _).mono ?_; rintro e w8 ⟨rfl, k8⟩
            clear hR q0 q1 q2 q3 q4 q5 q6
            replace k3 := k3.trans k8 (by simp)
            replace B2 := k8.blk B2 (by simp)
            clear k8
            obtain ⟨q0, q1, q2, q3, q4, q5, q6⟩ := blk7 B2
            have lg8 := lg.new k3
            cases hcan : canS (b.drop a) with
            | false =>
              have hq := hno hcan
              have hq2 := Lib.hid (hend hcan)
              clear hno hro hend hMf hgy
              go_wp2_with fail
              exact bodyPost_ret (tmp_ret3 rfl _ _) rfl ⟨A', c', by rw [hq.out, hq2.out, show M.length = m' from hm.out.symm]; rfl, by rw [hq.out]; exact lg8.len_ hm.out⟩
            | true =>
              have hq := hro hcan
              have hMl := hMf hcan
              obtain ⟨hgo, hgn⟩ := hgy hcan
              rw [hop.out] at hgo
              rw [hvN.out] at hgo
              rw [hgo, hgn] at hq
              clear hno hro hend hMf hgy hcan hgo hgn
              have lg9 := lg8.new ((Chg.refl [] w8).alloc (.cells #[.int .i64 wt, .bool us, .int .u64 0, .int .u64 0, .int .i64 0, .int .i64 0, .int .i64 valN] 31))
              have hsum : (a : Int) + 2 = ((a + 2 : Nat) : Int) := by omega
              obtain ⟨a2, ha2⟩ : ∃ a2, a2 = a + 2 := ⟨_, rfl⟩
              rw [← ha2] at hsum hq
              replace ha2 := Lib.hid ha2
              have hwr2 : IntKind.i64.wrap (a2 : Int) = (a2 : Int) := by rw [IntKind.wrap_i64]; have := ha2.out; omega
              go_wp2_with (at_builtin; (refine wpList_append_G rfl _ _ 22 rfl 31 (.agg #[.int .i64 0, .bool false, .int .u64 0, .int .u64 0, .int .i64 0, .int .i64 0, .int .i64 0]) 56 Try.underlying22 (by kernel_rfl) (by kernel_rfl) (.slice A' m' c') M rfl lg9.2.1 (some ⟨w8.heap.size, 0, none⟩) 1 1 [(⟨wt, us, 0, 0, 0, 0, valN⟩ : Sop)] rfl (OwnG.src (E := opE) (OwnG.lit (L := [(⟨wt, us, 0, 0, 0, 0, valN⟩ : Sop)]) (Blk.new w8 31 #[.int .i64 wt, .bool us, .int .u64 0, .int .u64 0, .int .i64 0, .int .i64 0, .int .i64 valN]) (by simp))) rfl (by omega) ?_; intro v10 w10 ho10 hc10 hv10; obtain ⟨A10, c10, rfl, _, _⟩ := ho10.form))
              have lg10 := lg9.app ho10 hc10 hv10
              go_roundg (nn - a2)
              case measure => have := ha2.out; omega
              case rel => exact ⟨a2, A10, M.length + 1, c10, M ++ [(⟨wt, us, 0, 0, 0, 0, valN⟩ : Sop)], by have := ha2.out; omega, by omega, rfl, rfl, (by show M.length + 1 = _; simp), lg10.len_ (by simp), hq.out⟩
      · have hq := hno (hcs (by omega))
        have hq2 := Lib.hid (hend (hcs (by omega)))
        clear hno hro hcs hcs2 hcs3 hend hMf hgy hpat hop0 hop1 hop2 hop3 hop4
        go_wp2_with fail
        replace lg := lg.new k2
        exact bodyPost_ret (tmp_ret3 rfl _ _) rfl ⟨A', c', by rw [hq.out, hq2.out, show M.length = m' from hm.out.symm]; rfl, by rw [hq.out]; exact lg.len_ hm.out⟩
    · obtain rfl : a = nn := by omega
      have hq := hat.out.stop (by rw [List.drop_of_length_le (by rw [hll.out]; exact Nat.le_refl _)]; exact canS_nil)
      have hq2 : gotE b = 0 := by unfold gotE; rw [hq, hll.out]; exact if_pos rfl
      replace hq := Lib.hid hq
      replace hq2 := Lib.hid hq2
      clear hat
      replace hm := Lib.hid hm.out
      go_wp2_with fail
      exact bodyPost_ret (tmp_ret3 rfl _ _) rfl ⟨A', c', by rw [hq.out, hq2.out, show M.length = m' from hm.out.symm]; rfl, by rw [hq.out]; exact lg.len_ hm.out⟩

end Go.Proofs.Ytdmcicgappgiiaa
