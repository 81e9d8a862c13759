/-
  GuardWords: the law, walked from contracts.
-/
import Derived.Test.YtgjfidjhbkaobaaGuardW
import Derived.Test.YtgjfidjhbkaobaaGS4
import Derived.Deep.CutRange
namespace Go.Proofs.Ytgjfidjhbkaobaa
open Go.RowKit Go.Maps

theorem Slot_info : ((Try.prog.info? 60).map (fun i => (i.zero, i.size, i.bytes))) = some (some (.agg #[.int .i64 0, .int .i64 0, .bool false, .bool false, .bool false]), 5, 24) := by kernel_rfl
theorem zap_key (n : Nat) (d : Gd) (p i f : Int) : keyV (zapG n d p i).s.L f = keyV d.s.L f := by
  unfold zapG
  split
  · rename_i hb
    show keyV (clearS n d.s p i).L f = _
    unfold clearS
    rw [if_pos hb, setS_L]; unfold keyV; rw [pgAt_setP]
    cases pgAt d.s.L f with
    | none => rfl
    | some q => simp only [Option.map_some, Option.getD_some]; split <;> rfl
  · rfl
theorem word_key (n : Nat) (d : Gd) (g i f : Int) : keyV (wordG n d g i).s.L f = keyV d.s.L f := by
  unfold wordG
  generalize ofP d.s.L g = l
  induction l generalizing d with
  | nil => rfl
  | cons p l ih => rw [List.foldl_cons, ih, zap_key]
theorem of_page {n a m : Nat} {s : Sr} (h : SrOk n a m s) {q : Pg} (hq : q ∈ s.L) (g : Int) : q.f ∈ ofP s.L g ↔ q.k.role = 0 ∧ q.k.g = g := by
  rw [of_mem]
  constructor
  · rintro ⟨q', h1, h2, h3⟩
    have e1 := h.at_ h1; have e2 := h.at_ hq
    rw [h2, e2] at e1; cases e1; exact h3
  · intro h3; exact ⟨q, hq, rfl, h3⟩
theorem word_T {n a m : Nat} {L : List Int} {d : Gd} (h : GdOk n a m L d) (g i : Int) (hi : 0 ≤ i ∧ i ≤ 7) (hT : d.T ≠ []) : (((wordG n d g i).T.length : Int) == 0) = true ↔ ∃ p ∈ ofP d.s.L g, clearB d.s p i = true := by
  unfold wordG
  rw [zaps_T i hi _ h]
  split
  · rename_i h1; simpa using h1
  · rename_i h1
    constructor
    · intro h2
      have h3 : d.T.length = 0 := by simpa using h2
      exact absurd (List.eq_nil_of_length_eq_zero h3) hT
    · intro h2; exact absurd h2 h1
/-- what a Word forgets, place by place -/
def evW (P : List Pg) (g : Int) (ii z : Nat) : Bool := match P[z / 8]? with
  | some q => decide (q.k.role = 0 ∧ q.k.g = g) && (decide (z % 8 = ii) && match q.s[z % 8]? with
    | some x => x.kind != 0
    | none => false)
  | none => false
theorem SrOk.toldN {n a m : Nat} {s : Sr} (h : SrOk n a m s) (g : Int) (ii : Nat) (hi : ii < 8) : ∃ tl : Nat → Bool, tl 0 = false ∧
    (∀ j i q x, s.L[j]? = some q → i < 8 → q.s[i]? = some x → tl (8 * j + i + 1) = (tl (8 * j + i) || (decide (q.k.role = 0 ∧ q.k.g = g) && (decide (i = ii) && (x.kind != 0))))) ∧
    (tl (8 * s.L.length) = true ↔ ∃ p ∈ ofP s.L g, clearB s p ii = true) := by
  refine ⟨fun z => (List.range z).any (evW s.L g ii), rfl, fun j i q x hq hi8 hx => ?_, ?_⟩
  · show (List.range (8 * j + i + 1)).any _ = ((List.range (8 * j + i)).any _ || _)
    rw [List.range_succ, List.any_append]
    congr 1
    have e1 : (8 * j + i) / 8 = j := by omega
    have e2 : (8 * j + i) % 8 = i := by omega
    simp only [List.any_cons, List.any_nil, Bool.or_false, evW, e1, e2, hq, hx]
  · show (List.range (8 * s.L.length)).any _ = true ↔ _
    rw [List.any_eq_true]
    constructor
    · rintro ⟨z, hz, he⟩
      rw [List.mem_range] at hz
      unfold evW at he
      cases hq : s.L[z / 8]? with
      | none => rw [hq] at he; cases he
      | some q =>
        rw [hq] at he
        simp only [Bool.and_eq_true, decide_eq_true_eq] at he
        obtain ⟨h1, h2, h3⟩ := he
        rw [h2] at h3
        obtain ⟨x, hx1, hx2, _, _⟩ := h.slotAt (j := z / 8) hi hq
        rw [hx1] at h3
        refine ⟨q.f, (of_page h (List.mem_of_getElem? hq) g).2 h1, ?_⟩
        unfold clearB; rw [hx2]; simpa using h3
    · rintro ⟨p, hp, hc⟩
      obtain ⟨q, hq, rfl, h1⟩ := of_mem.1 hp
      obtain ⟨j, hj, hje⟩ := List.getElem_of_mem hq
      have hq0 : s.L[j]? = some q := by rw [List.getElem?_eq_getElem hj, hje]
      obtain ⟨x, hx1, hx2, _, _⟩ := h.slotAt (j := j) hi hq0
      unfold clearB at hc; rw [hx2] at hc
      refine ⟨8 * j + ii, by rw [List.mem_range]; omega, ?_⟩
      have e1 : (8 * j + ii) / 8 = j := by omega
      have e2 : (8 * j + ii) % 8 = ii := by omega
      simp only [evW, e1, e2, hq0, hx1, h1, and_self, decide_true, Bool.true_and]
      simpa using hc
set_option maxRecDepth 100000 in
set_option maxHeartbeats 20000000 in
/-- behind a Word the slots at this place of the table's pages are empty, and no other has turned; the TLB knows nothing more just if one was not empty -/
theorem lawGuardWords_any (A : Option Addr) (n c : Nat) (P : List Pu) (B : Option Addr) (m e0 : Nat) (L : List Gst) (g i_ : Nat) (w : World) (hP : SlP w A n P) (hl : GopsIn w B m L) (hg : g ≤ 255) (hi_ : i_ ≤ 255) :
    Calls Try.prog 8 #[.slice A n c, .slice B m e0, .int .u8 g, .int .u8 i_] w fun e w' => e = .returned (.bool true) ∧ Chg [] w w' := by
  have hHd := fun w' => GHead_any w'
  have hGr := fun z => Great16_any A n c B m e0 z
  have hmm := hl.sl.len
  have hm9 := hl.sl.le
  replace hmm := Lib.hid hmm
  have H0 := SepC.nil w
  cases hg_ : (decide (n > 600) || decide (m > 120))
  rotate_left
  · rw [hg_] at hGr
    go_enter Try.func8, Try.ntmps8
    go_wp2_with fail
    refine (hHd _).mono ?_; rintro e z1 ⟨rfl, y1⟩
    have H1 := H0.new y1
    clear H0 y1 hHd
    go_wp2_with fail
    refine (Made16_at (hP.self H1.1)).mono ?_; intro e z2 hMP
    unfold MadeP16 at hMP
    obtain ⟨wb, dd, gq, mp, q, hp, hb, t, rfl, HM⟩ := hMP
    have H := H1.merge HM
    clear H1 HM hP
    go_wp2_with fail
    refine (hGr _).mono ?_; rintro e z3 ⟨rfl, rfl⟩
    clear hGr
    go_wp2_with fail
    go_ret
    exact ⟨rfl, H.1⟩
  rw [hg_] at hGr
  clear hg_
  go_enter Try.func8, Try.ntmps8
  go_wp2_with fail
  refine (hHd _).mono ?_; rintro e z1 ⟨rfl, y1⟩
  have H1 := H0.new y1
  clear H0 y1 hHd
  go_wp2_with fail
  refine (Made16_at (hP.self H1.1)).mono ?_; intro e z2 hMP
  unfold MadeP16 at hMP
  obtain ⟨wb, dd, gq, mp, q, hp, hb, t, rfl, HM⟩ := hMP
  have H := H1.merge HM
  clear H1 HM hP
  go_wp2_with fail
  refine (hGr _).mono ?_; rintro e z3 ⟨rfl, rfl⟩
  clear hGr
  go_wp2_with fail
  replace H : SepC w _ (gdT dd gq mp q hp hb t 40 4 8 8 gl16 (opsG (gd0 (madeG P)) (L.take 0)) :: blkT wb 43 (wdC hp gq q t dd) :: []) := H
  go_loopw [11] (fun s_ wr => ∃ k : Nat, k ≤ m ∧ s_ = .int .i64 k ∧ SepC w wr (gdT dd gq mp q hp hb t 40 4 8 8 gl16 (opsG (gd0 (madeG P)) (L.take k)) :: blkT wb 43 (wdC hp gq q t dd) :: [])) (fun s_ _ => m - (intOf s_).toNat)
  case atStart => exact ⟨0, Nat.zero_le _, rfl, H⟩
  case round =>
    clear H
    obtain ⟨k, hk, rfl, H⟩ := hrel
    by_cases hlt : k < m
    · have hltz : (k : Int) < (m : Int) := by omega
      obtain ⟨b, off, o, rfl, ho, c0, c1, c2, c3, c4, c5, c6, c7, c8, c9, c10⟩ := gopE_cells (hl.new H.1).sl hlt
      have hD := H.wDo o (hl.at_ ho)
      rw [← opsG_take ho] at hD
      simp only [Gst.cs] at hD
      clear H
      go_wp2_with fail
      refine hD.mono ?_; rintro e w2 ⟨rfl, H2⟩
      clear hD c0 c1 c2 c3 c4 c5 c6 c7 c8 c9 c10
      go_wp2_with fail
      go_roundw
      case rel => exact ⟨k + 1, by omega, by go_num, H2⟩
      case measure => simp [intOf]; omega
    · have ek : k = m := by omega
      subst ek
      have hltz : ¬ (k : Int) < (k : Int) := by omega
      rw [List.take_of_length_le (Nat.le_of_eq hmm.out)] at H
      obtain ⟨d, hd⟩ : ∃ d, opsG (gd0 (madeG P)) L = d := ⟨_, rfl⟩
      rw [hd] at H
      have G := H.gIn
      clear hd hltz hlt hk hmm hm9 hl
      have hok := G.ok.sr
      have hLn := hok.le256
      obtain ⟨K1, hK10, hK1l, hK1n, hK1s, hK1a⟩ := hok.slotsN
      have hpl := fun j (hj : j < d.s.L.length) => hok.pageAt hj
      have hsl := fun j i (hi : i < 8) q_ (hq : d.s.L[j]? = some q_) => hok.slotAt (j := j) hi hq
      obtain ⟨gg, hgg, hgl⟩ : ∃ gg : Nat, g % 16 = gg ∧ gg < 16 := ⟨_, rfl, by omega⟩
      obtain ⟨ii, hii, hil⟩ : ∃ ii : Nat, i_ % 8 = ii ∧ ii < 8 := ⟨_, rfl, by omega⟩
      have hm1 : (g : Int) % 16 = (gg : Int) := by omega
      have hm1t : Int.tmod (g : Int) 16 = (gg : Int) := by rw [Int.tmod_eq_emod_of_nonneg (by omega)]; exact hm1
      have hm2 : (i_ : Int) % 8 = (ii : Int) := by omega
      have hm2t : Int.tmod (i_ : Int) 8 = (ii : Int) := by rw [Int.tmod_eq_emod_of_nonneg (by omega)]; exact hm2
      clear hgg hii
      obtain ⟨tl, htl0, htls, htle⟩ := hok.toldN (gg : Int) ii hil
      have hop := fun q_ (hq : q_ ∈ d.s.L) => of_page hok hq (gg : Int)
      obtain ⟨D1, hD1⟩ : ∃ D1 : Gd, (⟨d.s, putT 8 d.T ⟨0, 5, 0, false, false, false, false⟩, d.l⟩ : Gd) = D1 := ⟨_, rfl⟩
      have G1 : GdIn 40 4 8 gl16 D1 := by rw [← hD1]; exact G.tlb _
      have es : D1.s = d.s := by rw [← hD1]
      have hT1 : D1.T ≠ [] := by rw [← hD1]; unfold putT; simp
      have hws := fun f j => word_slot G1.ok (gg : Int) (ii : Int) ⟨by omega, by omega⟩ f j
      rw [es] at hws
      have hwk := fun f => word_key 40 D1 (gg : Int) (ii : Int) f
      rw [es] at hwk
      have hwT := word_T G1.ok (gg : Int) (ii : Int) ⟨by omega, by omega⟩ hT1
      rw [es] at hwT
      have cP := fun {z : World} {l_ : List Th} (H' : SepC w z (gdT dd gq mp q hp hb t 40 4 8 8 gl16 (d) :: l_)) => H'.kPut ⟨0, 5, 0, false, false, false, false⟩
      rw [hD1] at cP
      simp only [Ht.v] at cP
      have cW := fun {z : World} {l_ : List Th} (H' : SepC w z (gdT dd gq mp q hp hb t 40 4 8 8 gl16 (D1) :: l_)) => H'.kWord (gg : Int) (ii : Int)
      clear hD1 G1 es hT1 G
      generalize wordG 40 D1 (gg : Int) (ii : Int) = D2 at *
      have cM := fun {z : World} {l_ : List Th} (H' : SepC w z (gdT dd gq mp q hp hb t 40 4 8 8 gl16 (D2) :: l_)) => H'.kMany
      obtain ⟨nT, hnT⟩ : ∃ nT, D2.T.length = nT := ⟨_, rfl⟩
      rw [hnT] at cM hwT
      clear hnT
      have cA := H.kPages
      have hlm : (d.s.L.map Pg.f).length = d.s.L.length := List.length_map _
      rw [hlm] at cA
      clear hlm
      generalize hF7 : d.s.L.map Pg.f = F7 at *
      obtain ⟨N7, hN7⟩ : ∃ N7, d.s.L.length = N7 := ⟨_, rfl⟩
      rw [hN7] at cA hpl hLn hK1n hK1a htle
      have hnT : ((nT : Int) == 0) = tl (8 * N7) := Bool.eq_iff_iff.2 (hwT.trans htle.symm)
      clear hwT htle hok
      generalize ofP d.s.L (gg : Int) = OL at *
      replace hN7 := Lib.hid hN7; replace hF7 := Lib.hid hF7; replace htl0 := Lib.hid htl0; replace hK10 := Lib.hid hK10; replace hnT := Lib.hid hnT
      obtain ⟨w0_, w1_, w2_, w3_, w4_⟩ := wdC_cells (H.pick 1 rfl).blk
      go_wp2_with fail
      refine cA.mono ?_; rintro e z7 ⟨A7, c7, rfl, H_⟩
      clear cA w0_ w1_ w2_ w3_ w4_ H
      have H := (H_.pick 2 rfl).pick 2 rfl
      clear H_
      have H9 := H.ownNil sltE 60
      replace H9 : SepC w z7 (gdT dd gq mp q hp hb t 40 4 8 8 gl16 (d) :: blkT wb 43 (wdC hp gq q t dd) :: ownT (numE .i64) 3 (.slice A7 N7 c7) F7 :: ownT sltE 60 (.slice none 0 0) [] :: []) := ((H9.pick 3 rfl).pick 3 rfl).pick 3 rfl
      clear H
      go_wp2_with fail
      go_loopw [15, 16] (fun s15 s16 wr => ∃ (j : Nat) (Ak : Option Addr) (ck : Nat), j ≤ N7 ∧ s16 = .int .i64 j ∧ s15 = .slice Ak (K1 (8 * j)).length ck ∧ SepC w wr (gdT dd gq mp q hp hb t 40 4 8 8 gl16 (d) :: blkT wb 43 (wdC hp gq q t dd) :: ownT (numE .i64) 3 (.slice A7 N7 c7) F7 :: ownT sltE 60 (.slice Ak (K1 (8 * j)).length ck) (K1 (8 * j)) :: [])) (fun _ s16 _ => N7 - (intOf s16).toNat)
      case atStart => exact ⟨0, none, 0, Nat.zero_le _, rfl, by rw [Nat.mul_zero, hK10.out]; rfl, by rw [Nat.mul_zero, hK10.out]; exact H9⟩
      case round =>
        obtain ⟨j, Ak, ck, hj, rfl, rfl, H⟩ := hrel
        clear H9
        by_cases hjl : j < N7
        · have hjz : (j : Int) < (N7 : Int) := by omega
          obtain ⟨qj, hq0, hqm, hqa, hqk, hqr, hqF⟩ := hpl j hjl
          have hsq := fun i hi => hsl j i hi qj hq0
          obtain ⟨ab, aoff, ax, rfl, _, hax, hac⟩ := SlN.get (H.pick 2 rfl).own.slg hjl
          clear hac hax
          replace hqF := Lib.hid hqF
          have hS1 := fun i x (hi : i < 8) (hx : qj.s[i]? = some x) => hK1s j i qj x hq0 hi hx
          clear hq0 hqk hqa hqm
          go_wp2_with fail
          go_loopw [15, 17] (fun s15 s17 wr => ∃ (i : Nat) (Ak : Option Addr) (ck : Nat), i ≤ 8 ∧ s17 = .int .i64 i ∧ s15 = .slice Ak (K1 (8 * j + i)).length ck ∧ SepC w wr (gdT dd gq mp q hp hb t 40 4 8 8 gl16 (d) :: blkT wb 43 (wdC hp gq q t dd) :: ownT (numE .i64) 3 (.slice (some ⟨ab, aoff, none⟩) N7 c7) F7 :: ownT sltE 60 (.slice Ak (K1 (8 * j + i)).length ck) (K1 (8 * j + i)) :: [])) (fun _ s17 _ => 8 - (intOf s17).toNat)
          case atStart => exact ⟨0, Ak, ck, by omega, rfl, rfl, H⟩
          case round =>
            obtain ⟨i, Ak, ck, hi, rfl, rfl, H10⟩ := hrel
            clear H
            by_cases hi8 : i < 8
            · have hiz : (i : Int) < 8 := by omega
              obtain ⟨x, hx0, hx1, hx2, _⟩ := hsq i hi8
              have e1 := hS1 i x hi8 hx0
              replace e1 := Lib.hid e1
              have cS := fun {z : World} {l_ : List Th} (H' : SepC w z (gdT dd gq mp q hp hb t 40 4 8 8 gl16 (d) :: l_)) => H'.kSlot qj.f (i : Int) hqr
              rw [slotV_at hx1, hx1] at cS
              obtain ⟨kd, t_, ⟨rw_, ru, rx⟩⟩ := x
              simp only [Option.isSome_some, Slt.cl] at cS
              clear hx0 hx1 hx2
              have H := H10
              clear H10
              have hld : ∀ z, Chg [] wr z → (z.cell? ⟨wb, 2, none⟩ = some (.pointer (some ⟨q, 0, none⟩)) ∧ z.cell? ⟨ab, aoff + j, none⟩ = some (.int .i64 qj.f)) := fun z hz => by
                have H2 := H.new hz
                obtain ⟨b_, o_, x_, e_, _, h_, t_⟩ := SlN.get (H2.pick 2 rfl).own.slg hjl
                cases e_; rw [hqF.out] at h_; cases h_
                exact ⟨(wdC_cells (H2.pick 1 rfl).blk).2.2.1, t_⟩
              go_upto_region 19 with fail
              go_cut [18, 19] from 77 to 89 (fun xv iv wx => ∃ sb : Nat, xv = .pointer (some ⟨sb, 0, none⟩) ∧ iv = .bool true ∧ SepC w wx (blkT sb 60 #[.int .i64 kd, .int .i64 t_, .bool rw_, .bool ru, .bool rx] :: gdT dd gq mp q hp hb t 40 4 8 8 gl16 (d) :: blkT wb 43 (wdC hp gq q t dd) :: ownT (numE .i64) 3 (.slice (some ⟨ab, aoff, none⟩) N7 c7) F7 :: ownT sltE 60 (.slice Ak (K1 (8 * j + i)).length ck) (K1 (8 * j + i)) :: []))
              case first =>
                have HH := H.new (Chg.refl [] wr).drew
                refine wp_region_noPanic ?_
                refine wp_region_held_drew (S := (fun w' => Chg [] wr w')) (by kernel_rfl) ?_ (fun hHeld => ?_)
                · exact (Chg.refl [] wr).drew
                (refine take_on 0 (some 78) (v := ?_) rfl rfl (by kernel_rfl) (by kernel_rfl) (by kernel_rfl) (fun _ _ _ h => h) (by rfl) (by assumption) ?_ ?_; rotate_left; · (intro w hSw; (try dsimp only at hSw); go_simp; (try with_reducible rfl)))
                (try simp only [Act.put, List.setIfInBounds_toArray, List.set_cons_zero, List.set_cons_succ])
                (refine take_on 1 (some 79) (v := ?_) rfl rfl (by kernel_rfl) (by kernel_rfl) (by kernel_rfl) (fun _ _ _ h => h) (by rfl) (by assumption) ?_ ?_; rotate_left; · (intro w hSw; (try dsimp only at hSw); go_simp; (try with_reducible rfl)))
                (try simp only [Act.put, List.setIfInBounds_toArray, List.set_cons_zero, List.set_cons_succ])
                (refine take_on 2 (some 80) (v := ?_) rfl rfl (by kernel_rfl) (by kernel_rfl) (by kernel_rfl) (fun _ _ _ h => h) (by rfl) (by assumption) ?_ ?_; rotate_left; · (intro w hSw; (try dsimp only at hSw); go_simp; (try with_reducible rfl)))
                (try simp only [Act.put, List.setIfInBounds_toArray, List.set_cons_zero, List.set_cons_succ])
                (refine take_on 3 (some 81) (v := ?_) rfl rfl (by kernel_rfl) (by kernel_rfl) (by kernel_rfl) (fun _ _ _ h => h) (by rfl) (by assumption) ?_ ?_; rotate_left; · (intro w hSw; (try dsimp only at hSw); obtain ⟨l0_, l1_⟩ := hld _ hSw; go_simp; (try with_reducible rfl)))
                (try simp only [Act.put, List.setIfInBounds_toArray, List.set_cons_zero, List.set_cons_succ])
                (refine take_on 4 (some 82) (v := ?_) rfl rfl (by kernel_rfl) (by kernel_rfl) (by kernel_rfl) (fun _ _ _ h => h) (by rfl) (by assumption) ?_ ?_; rotate_left; · (intro w hSw; (try dsimp only at hSw); go_simp; (try with_reducible rfl)))
                (try simp only [Act.put, List.setIfInBounds_toArray, List.set_cons_zero, List.set_cons_succ])
                (refine take_on 5 (some 83) (v := ?_) rfl rfl (by kernel_rfl) (by kernel_rfl) (by kernel_rfl) (fun _ _ _ h => h) (by rfl) (by assumption) ?_ ?_; rotate_left; · (intro w hSw; (try dsimp only at hSw); go_simp; (try with_reducible rfl)))
                (try simp only [Act.put, List.setIfInBounds_toArray, List.set_cons_zero, List.set_cons_succ])
                (refine take_on 6 (some 84) (v := ?_) rfl rfl (by kernel_rfl) (by kernel_rfl) (by kernel_rfl) (fun _ _ _ h => h) (by rfl) (by assumption) ?_ ?_; rotate_left; · (intro w hSw; (try dsimp only at hSw); go_simp; (try with_reducible rfl)))
                (try simp only [Act.put, List.setIfInBounds_toArray, List.set_cons_zero, List.set_cons_succ])
                (refine take_on 7 (some 85) (v := ?_) rfl rfl (by kernel_rfl) (by kernel_rfl) (by kernel_rfl) (fun _ _ _ h => h) (by rfl) (by assumption) ?_ ?_; rotate_left; · (intro w hSw; (try dsimp only at hSw); obtain ⟨l0_, l1_⟩ := hld _ hSw; go_simp; (try with_reducible rfl)))
                (try simp only [Act.put, List.setIfInBounds_toArray, List.set_cons_zero, List.set_cons_succ])
                (refine take_on 8 (some 86) (v := ?_) rfl rfl (by kernel_rfl) (by kernel_rfl) (by kernel_rfl) (fun _ _ _ h => h) (by rfl) (by assumption) ?_ ?_; rotate_left; · (intro w hSw; (try dsimp only at hSw); go_simp; (try with_reducible rfl)))
                (try simp only [Act.put, List.setIfInBounds_toArray, List.set_cons_zero, List.set_cons_succ])
                refine wpAnyH_ready (rs := [9, 13]) (by kernel_rfl) (by simp) ?_; refine AllReadyH.cons (o := _) rfl (fun K_ hK => ?_) (AllReadyH.cons (o := _) rfl (fun K_ hK => ?_) AllReadyH.nil)
                · go_simp
                  (go_at_call 25; refine (cS HH).mono ?_; rintro e u1 ⟨rfl, y1⟩)
                  refine hK.out _ _ (by (try dsimp only); exact hHeld.trans y1 (by simp)) (fun hHeld => ?_)
                  clear hK K_
                  (try simp only [Act.put, List.setIfInBounds_toArray, List.set_cons_zero, List.set_cons_succ])
                  replace HH := HH.new y1
                  clear y1
                  have hsb : wr.heap.size ≤ u1.heap.size := hHeld.size
                  (refine take_on 10 (some 77) (v := ?_) rfl rfl (by kernel_rfl) (by kernel_rfl) (by kernel_rfl) (fun _ _ _ h => h) (by rfl) (by assumption) ?_ ?_; rotate_left; · (intro w hSw; go_simp; (try with_reducible rfl)))
                  (try simp only [Act.put, List.setIfInBounds_toArray, List.set_cons_zero, List.set_cons_succ])
                  (refine take_on 11 (some 88) (v := ?_) rfl rfl (by kernel_rfl) (by kernel_rfl) (by kernel_rfl) (fun _ _ _ h => h) (by rfl) (by assumption) ?_ ?_; rotate_left; · (intro w hSw; go_simp; (try with_reducible rfl)))
                  (try simp only [Act.put, List.setIfInBounds_toArray, List.set_cons_zero, List.set_cons_succ])
                  (refine take_on 12 (some 89) (v := ?_) rfl rfl (by kernel_rfl) (by kernel_rfl) (by kernel_rfl) (fun _ _ _ h => h) (by rfl) (by assumption) ?_ ?_; rotate_left; · (intro w hSw; go_simp; (try with_reducible rfl)))
                  (try simp only [Act.put, List.setIfInBounds_toArray, List.set_cons_zero, List.set_cons_succ])
                  refine wpAnyH_ready (rs := [13]) (by kernel_rfl) (by simp) ?_; refine AllReadyH.cons (o := _) rfl (fun K_ hK => ?_) AllReadyH.nil
                  go_simp
                  refine hK.out _ _ (by (try dsimp only); exact hHeld.alloc _) (fun hHeld => ?_)
                  clear hK K_
                  (try simp only [Act.put, List.setIfInBounds_toArray, List.set_cons_zero, List.set_cons_succ])
                  replace HH := HH.alloc #[.int .i64 0, .int .i64 0, .bool false, .bool false, .bool false] 60
                  generalize u1.alloc (.cells #[.int .i64 0, .int .i64 0, .bool false, .bool false, .bool false] 60) = u2 at *
                  generalize u1.heap.size = sb at *
                  have e0_ := HH.blk.cell 0; have f0_ := HH.blk.frozen 0
                  have e1_ := HH.blk.cell 1; have f1_ := HH.blk.frozen 1
                  have e2_ := HH.blk.cell 2; have f2_ := HH.blk.frozen 2
                  have e3_ := HH.blk.cell 3; have f3_ := HH.blk.frozen 3
                  have e4_ := HH.blk.cell 4; have f4_ := HH.blk.frozen 4
                  simp only [List.getElem?_toArray, List.getElem?_cons_zero, List.getElem?_cons_succ] at e0_ e1_ e2_ e3_ e4_
                  have HH3 := (((((HH).cellSet 0 (.int .i64 kd)).cellSet 1 (.int .i64 t_)).cellSet 2 (.bool rw_)).cellSet 3 (.bool ru)).cellSet 4 (.bool rx)
                  simp only [List.setIfInBounds_toArray, List.set_cons_zero, List.set_cons_succ] at HH3
                  have hY : Chg [sb] u2 (((((u2.setCell ⟨sb, 0, none⟩ (.int .i64 kd)).setCell ⟨sb, 1, none⟩ (.int .i64 t_)).setCell ⟨sb, 2, none⟩ (.bool rw_)).setCell ⟨sb, 3, none⟩ (.bool ru)).setCell ⟨sb, 4, none⟩ (.bool rx)) := ((((((Chg.refl [sb] u2).setCell (p := ⟨sb, 0, none⟩) (by simp) _).setCell (p := ⟨sb, 1, none⟩) (by simp) _).setCell (p := ⟨sb, 2, none⟩) (by simp) _).setCell (p := ⟨sb, 3, none⟩) (by simp) _).setCell (p := ⟨sb, 4, none⟩) (by simp) _)
                  refine wpAnyH_ready (rs := [14]) (by kernel_rfl) (by simp) ?_; refine AllReadyH.cons (o := _) rfl (fun K_ hK => ?_) AllReadyH.nil
                  go_simp
                  refine hK.out _ _ (by (try dsimp only); exact hHeld.trans hY (fun i hi hm => by simp at hm; omega)) (fun hHeld => ?_)
                  clear hK K_
                  (try simp only [Act.put, List.setIfInBounds_toArray, List.set_cons_zero, List.set_cons_succ])
                  clear e0_ f0_ e1_ f1_ e2_ f2_ e3_ f3_ e4_ f4_ hY HH hsb
                  generalize (((((u2.setCell ⟨sb, 0, none⟩ (.int .i64 kd)).setCell ⟨sb, 1, none⟩ (.int .i64 t_)).setCell ⟨sb, 2, none⟩ (.bool rw_)).setCell ⟨sb, 3, none⟩ (.bool ru)).setCell ⟨sb, 4, none⟩ (.bool rx)) = u3 at *
                  (refine take_on 15 (some 19) (v := ?_) rfl rfl (by kernel_rfl) (by kernel_rfl) (by kernel_rfl) (fun _ _ _ h => h) (by rfl) (by assumption) ?_ ?_; rotate_left; · (intro w hSw; (try dsimp only at hSw); go_simp; (try with_reducible rfl)))
                  (try simp only [Act.put, List.setIfInBounds_toArray, List.set_cons_zero, List.set_cons_succ])
                  refine wpAnyH_done (by kernel_rfl) ?_ _
                  refine NoPanic.normal ?_
                  clear hHeld H
                  clear hld cS
                  go_wp2_with fail
                  go_meet
                  exact ⟨sb, rfl, rfl, HH3⟩
                · clear HH
                  go_simp
                  refine hK.out _ _ (by (try dsimp only); exact ((Chg.refl [] wr).alloc _).drew) (fun hHeld => ?_)
                  clear hK K_
                  (try simp only [Act.put, List.setIfInBounds_toArray, List.set_cons_zero, List.set_cons_succ])
                  have HH := (H.alloc #[.int .i64 0, .int .i64 0, .bool false, .bool false, .bool false] 60).new (Chg.refl [] _).drew
                  have hsb : wr.heap.size ≤ wr.heap.size := Nat.le_refl _
                  generalize (wr.alloc (.cells #[.int .i64 0, .int .i64 0, .bool false, .bool false, .bool false] 60)).drew = u1 at *
                  generalize hsb_ : wr.heap.size = sb at hsb HH ⊢
                  clear hsb
                  have hsb : wr.heap.size ≤ sb := by omega
                  refine wpAnyH_ready (rs := [9]) (by kernel_rfl) (by simp) ?_; refine AllReadyH.cons (o := _) rfl (fun K_ hK => ?_) AllReadyH.nil
                  go_simp
                  (go_at_call 25; refine (cS (HH.tail)).mono ?_; rintro e u2 ⟨rfl, y1⟩)
                  refine hK.out _ _ (by (try dsimp only); exact hHeld.trans y1 (by simp)) (fun hHeld => ?_)
                  clear hK K_
                  (try simp only [Act.put, List.setIfInBounds_toArray, List.set_cons_zero, List.set_cons_succ])
                  replace HH := HH.new y1
                  clear y1 hsb_
                  (refine take_on 10 (some 77) (v := ?_) rfl rfl (by kernel_rfl) (by kernel_rfl) (by kernel_rfl) (fun _ _ _ h => h) (by rfl) (by assumption) ?_ ?_; rotate_left; · (intro w hSw; go_simp; (try with_reducible rfl)))
                  (try simp only [Act.put, List.setIfInBounds_toArray, List.set_cons_zero, List.set_cons_succ])
                  (refine take_on 11 (some 88) (v := ?_) rfl rfl (by kernel_rfl) (by kernel_rfl) (by kernel_rfl) (fun _ _ _ h => h) (by rfl) (by assumption) ?_ ?_; rotate_left; · (intro w hSw; go_simp; (try with_reducible rfl)))
                  (try simp only [Act.put, List.setIfInBounds_toArray, List.set_cons_zero, List.set_cons_succ])
                  (refine take_on 12 (some 89) (v := ?_) rfl rfl (by kernel_rfl) (by kernel_rfl) (by kernel_rfl) (fun _ _ _ h => h) (by rfl) (by assumption) ?_ ?_; rotate_left; · (intro w hSw; go_simp; (try with_reducible rfl)))
                  (try simp only [Act.put, List.setIfInBounds_toArray, List.set_cons_zero, List.set_cons_succ])
                  have e0_ := HH.blk.cell 0; have f0_ := HH.blk.frozen 0
                  have e1_ := HH.blk.cell 1; have f1_ := HH.blk.frozen 1
                  have e2_ := HH.blk.cell 2; have f2_ := HH.blk.frozen 2
                  have e3_ := HH.blk.cell 3; have f3_ := HH.blk.frozen 3
                  have e4_ := HH.blk.cell 4; have f4_ := HH.blk.frozen 4
                  simp only [List.getElem?_toArray, List.getElem?_cons_zero, List.getElem?_cons_succ] at e0_ e1_ e2_ e3_ e4_
                  have HH3 := (((((HH).cellSet 0 (.int .i64 kd)).cellSet 1 (.int .i64 t_)).cellSet 2 (.bool rw_)).cellSet 3 (.bool ru)).cellSet 4 (.bool rx)
                  simp only [List.setIfInBounds_toArray, List.set_cons_zero, List.set_cons_succ] at HH3
                  have hY : Chg [sb] u2 (((((u2.setCell ⟨sb, 0, none⟩ (.int .i64 kd)).setCell ⟨sb, 1, none⟩ (.int .i64 t_)).setCell ⟨sb, 2, none⟩ (.bool rw_)).setCell ⟨sb, 3, none⟩ (.bool ru)).setCell ⟨sb, 4, none⟩ (.bool rx)) := ((((((Chg.refl [sb] u2).setCell (p := ⟨sb, 0, none⟩) (by simp) _).setCell (p := ⟨sb, 1, none⟩) (by simp) _).setCell (p := ⟨sb, 2, none⟩) (by simp) _).setCell (p := ⟨sb, 3, none⟩) (by simp) _).setCell (p := ⟨sb, 4, none⟩) (by simp) _)
                  refine wpAnyH_ready (rs := [14]) (by kernel_rfl) (by simp) ?_; refine AllReadyH.cons (o := _) rfl (fun K_ hK => ?_) AllReadyH.nil
                  go_simp
                  refine hK.out _ _ (by (try dsimp only); exact hHeld.trans hY (fun i hi hm => by simp at hm; omega)) (fun hHeld => ?_)
                  clear hK K_
                  (try simp only [Act.put, List.setIfInBounds_toArray, List.set_cons_zero, List.set_cons_succ])
                  clear e0_ f0_ e1_ f1_ e2_ f2_ e3_ f3_ e4_ f4_ hY HH hsb
                  generalize (((((u2.setCell ⟨sb, 0, none⟩ (.int .i64 kd)).setCell ⟨sb, 1, none⟩ (.int .i64 t_)).setCell ⟨sb, 2, none⟩ (.bool rw_)).setCell ⟨sb, 3, none⟩ (.bool ru)).setCell ⟨sb, 4, none⟩ (.bool rx)) = u3 at *
                  (refine take_on 15 (some 19) (v := ?_) rfl rfl (by kernel_rfl) (by kernel_rfl) (by kernel_rfl) (fun _ _ _ h => h) (by rfl) (by assumption) ?_ ?_; rotate_left; · (intro w hSw; (try dsimp only at hSw); go_simp; (try with_reducible rfl)))
                  (try simp only [Act.put, List.setIfInBounds_toArray, List.set_cons_zero, List.set_cons_succ])
                  refine wpAnyH_done (by kernel_rfl) ?_ _
                  refine NoPanic.normal ?_
                  clear hHeld H
                  clear hld cS
                  go_wp2_with fail
                  go_meet
                  exact ⟨sb, rfl, rfl, HH3⟩
              case rest =>
                obtain ⟨sb, rfl, rfl, H11⟩ := hcut
                clear H hld cS
                have bx := H11.blk
                have H12 := H11.tail
                clear H11
                have e0 := bx.cell 0; have e2 := bx.cell 1; have e3 := bx.cell 2; have e4 := bx.cell 3; have e5 := bx.cell 4
                simp only [List.getElem?_toArray, List.getElem?_cons_zero, List.getElem?_cons_succ] at e0 e2 e3 e4 e5
                have hown := (H12.pick 3 rfl).own
                have k4 := ((Chg.refl [] wc).alloc (.cells #[.int .i64 kd, .int .i64 t_, .bool rw_, .bool ru, .bool rx] 60))
                have hown4 := hown.new k4
                have hsrc4 : Src (wc.alloc (.cells #[.int .i64 kd, .int .i64 t_, .bool rw_, .bool ru, .bool rx] 60)) sltE.k (some ⟨wc.heap.size, 0, none⟩) 1 1 (sltE.all [(⟨kd, t_, ⟨rw_, ru, rx⟩⟩ : Slt)]) := (OwnG.lit (E := sltE) (L := [(⟨kd, t_, ⟨rw_, ru, rx⟩⟩ : Slt)]) (Blk.new wc 60 #[.int .i64 kd, .int .i64 t_, .bool rw_, .bool ru, .bool rx]) (by simp)).src
                go_wp2_with (at_builtin; refine wpList_append_G (E := sltE) rfl _ _ 58 rfl 60 (.agg #[.int .i64 0, .int .i64 0, .bool false, .bool false, .bool false]) 24 Try.underlying58 Slot_info rfl (.slice Ak (K1 (8 * j + i)).length ck) (K1 (8 * j + i)) rfl hown4 (some ⟨wc.heap.size, 0, none⟩) 1 1 [(⟨kd, t_, ⟨rw_, ru, rx⟩⟩ : Slt)] rfl hsrc4 rfl (by have := hK1l (8 * j + i); omega) ?_; intro v5 w5 ho5 hc5 hb5; obtain ⟨A5, c5, rfl, _, _⟩ := ho5.form; rw [← e1.out] at ho5 hb5)
                have H16 := ((H12.pick 3 rfl).new k4).app ho5 hc5 hb5
                clear H12 bx e0 e2 e3 e4 e5 hown hown4 hsrc4 ho5 hc5 hb5 k4
                replace H16 : SepC w w5 (gdT dd gq mp q hp hb t 40 4 8 8 gl16 (d) :: blkT wb 43 (wdC hp gq q t dd) :: ownT (numE .i64) 3 (.slice (some ⟨ab, aoff, none⟩) N7 c7) F7 :: ownT sltE 60 (.slice A5 (K1 (8 * j + i + 1)).length c5) (K1 (8 * j + i + 1)) :: []) := ((H16.pick 3 rfl).pick 3 rfl).pick 3 rfl
                go_roundw
                case rel => exact ⟨i + 1, A5, c5, by omega, by go_num, by (rw [← Nat.add_assoc, e1.out, List.length_append]; rfl), H16⟩
                case measure => simp [intOf]; omega
            · obtain rfl : i = 8 := by omega
              have hiz : ¬ (8 : Int) < 8 := by omega
              go_wp2_with fail
              go_roundw
              case rel => exact ⟨j + 1, Ak, ck, by omega, by go_num, rfl, H10⟩
              case measure => simp [intOf]; omega
        · have ej : N7 = j := by omega
          subst ej
          have hjz : ¬ (N7 : Int) < (N7 : Int) := by omega
          have hKn := hK1n (8 * N7) (Nat.le_refl _)
          obtain ⟨NW, hNW⟩ : ∃ NW, 8 * N7 = NW := ⟨_, rfl⟩
          have hgv : (Value.slice Ak (K1 (8 * N7)).length ck) = .slice Ak NW ck := by rw [hKn, hNW]
          rw [hgv]
          rw [hNW] at H hKn hK1a
          obtain ⟨KW, hKW⟩ : ∃ KW, K1 NW = KW := ⟨_, rfl⟩
          rw [hKW] at H hKn hK1a
          rw [hKn] at H
          clear hgv hKW hKn hK1n hK1s hK1l hK10
          replace hNW := Lib.hid hNW
          obtain ⟨w0_, w1_, w2_, w3_, w4_⟩ := wdC_cells (H.pick 1 rfl).blk
          go_wp2_with fail
          refine (cP H).mono ?_; rintro e z8 ⟨rfl, H_⟩
          clear cP H w0_ w1_ w2_ w3_ w4_
          have H := H_
          clear H_
          obtain ⟨w0_, w1_, w2_, w3_, w4_⟩ := wdC_cells (H.pick 1 rfl).blk
          go_wp2_with fail
          refine (cW H).mono ?_; rintro e z9 ⟨rfl, H_⟩
          clear cW H w0_ w1_ w2_ w3_ w4_
          have H := H_
          clear H_
          go_wp2_with fail
          go_loopw [20, 21] (fun s20 s21 wr => ∃ j : Nat, j ≤ N7 ∧ s21 = .int .i64 j ∧ s20 = .bool (tl (8 * j)) ∧ SepC w wr (gdT dd gq mp q hp hb t 40 4 8 8 gl16 (D2) :: blkT wb 43 (wdC hp gq q t dd) :: ownT (numE .i64) 3 (.slice A7 N7 c7) F7 :: ownT sltE 60 (.slice Ak NW ck) KW :: [])) (fun _ s21 _ => N7 - (intOf s21).toNat)
          case atStart => exact ⟨0, Nat.zero_le _, rfl, by rw [Nat.mul_zero, htl0.out], H⟩
          case round =>
            clear H
            obtain ⟨j, hj, rfl, rfl, H⟩ := hrel
            by_cases hjl : j < N7
            · have hjz : (j : Int) < (N7 : Int) := by omega
              obtain ⟨qj, hq0, hqm, hqa, hqk, hqr, hqF⟩ := hpl j hjl
              have hsq := fun i hi => hsl j i hi qj hq0
              obtain ⟨ab, aoff, ax, rfl, _, hax, hac⟩ := SlN.get (H.pick 2 rfl).own.slg hjl
              clear hac hax
              replace hqF := Lib.hid hqF
              have hKa := fun i x (hi : i < 8) (hx : qj.s[i]? = some x) => hK1a j i qj x hq0 hi hx
              have hst := fun i x (hi : i < 8) (hx : qj.s[i]? = some x) => htls j i qj x hq0 hi hx
              have hofq := hop qj hqm
              have cK := fun {z : World} {l_ : List Th} (H' : SepC w z (gdT dd gq mp q hp hb t 40 4 8 8 gl16 (D2) :: l_)) => H'.kKey qj.f hqr
              rw [hwk, hqk] at cK
              generalize (pgAt D2.s.L qj.f).isSome = is_ at *
              clear hq0 hqk hqa hqm
              generalize qj.k = kj at *
              obtain ⟨kg, kl, kr⟩ := kj
              simp only [Ky.cs] at cK
              simp only at hofq hst
              obtain ⟨rz, hrz⟩ : ∃ rz, (kr == 0) = rz := ⟨_, rfl⟩
              obtain ⟨ge, hge⟩ : ∃ ge, (kg == (gg : Int)) = ge := ⟨_, rfl⟩
              obtain ⟨ofb, hofb⟩ : ∃ ofb, (rz && ge) = ofb := ⟨_, rfl⟩
              have hde : decide (kr = 0 ∧ kg = (gg : Int)) = ofb := by rw [← hofb, ← hrz, ← hge]; exact Bool.eq_iff_iff.2 (by simp)
              rw [hde] at hst
              have hof2 : qj.f ∈ OL ↔ ofb = true := by rw [hofq, ← hde, decide_eq_true_eq]
              clear hde hofq
              replace hof2 := Lib.hid hof2; replace hofb := Lib.hid hofb; replace hst := Lib.hid hst
              have hld : ∀ z, Chg [] wr z → (z.cell? ⟨wb, 2, none⟩ = some (.pointer (some ⟨q, 0, none⟩)) ∧ z.cell? ⟨ab, aoff + j, none⟩ = some (.int .i64 qj.f)) := fun z hz => by
                have H2 := H.new hz
                obtain ⟨b_, o_, x_, e_, _, h_, t_⟩ := SlN.get (H2.pick 2 rfl).own.slg hjl
                cases e_; rw [hqF.out] at h_; cases h_
                exact ⟨(wdC_cells (H2.pick 1 rfl).blk).2.2.1, t_⟩
              go_upto_region 27 with fail
              go_cut [22, 23] from 113 to 124 (fun xv iv wx => ∃ sb : Nat, xv = .pointer (some ⟨sb, 0, none⟩) ∧ iv = .bool is_ ∧ SepC w wx (blkT sb 25 #[.int .i64 kg, .int .i64 kl, .int .i64 kr] :: gdT dd gq mp q hp hb t 40 4 8 8 gl16 (D2) :: blkT wb 43 (wdC hp gq q t dd) :: ownT (numE .i64) 3 (.slice (some ⟨ab, aoff, none⟩) N7 c7) F7 :: ownT sltE 60 (.slice Ak NW ck) KW :: []))
              case first =>
                have HH := H.new (Chg.refl [] wr).drew
                refine wp_region_noPanic ?_
                refine wp_region_held_drew (S := (fun w' => Chg [] wr w')) (by kernel_rfl) ?_ (fun hHeld => ?_)
                · exact (Chg.refl [] wr).drew
                (refine take_on 0 (some 114) (v := ?_) rfl rfl (by kernel_rfl) (by kernel_rfl) (by kernel_rfl) (fun _ _ _ h => h) (by rfl) (by assumption) ?_ ?_; rotate_left; · (intro w hSw; (try dsimp only at hSw); go_simp; (try with_reducible rfl)))
                (try simp only [Act.put, List.setIfInBounds_toArray, List.set_cons_zero, List.set_cons_succ])
                (refine take_on 1 (some 115) (v := ?_) rfl rfl (by kernel_rfl) (by kernel_rfl) (by kernel_rfl) (fun _ _ _ h => h) (by rfl) (by assumption) ?_ ?_; rotate_left; · (intro w hSw; (try dsimp only at hSw); go_simp; (try with_reducible rfl)))
                (try simp only [Act.put, List.setIfInBounds_toArray, List.set_cons_zero, List.set_cons_succ])
                (refine take_on 2 (some 116) (v := ?_) rfl rfl (by kernel_rfl) (by kernel_rfl) (by kernel_rfl) (fun _ _ _ h => h) (by rfl) (by assumption) ?_ ?_; rotate_left; · (intro w hSw; (try dsimp only at hSw); go_simp; (try with_reducible rfl)))
                (try simp only [Act.put, List.setIfInBounds_toArray, List.set_cons_zero, List.set_cons_succ])
                (refine take_on 3 (some 117) (v := ?_) rfl rfl (by kernel_rfl) (by kernel_rfl) (by kernel_rfl) (fun _ _ _ h => h) (by rfl) (by assumption) ?_ ?_; rotate_left; · (intro w hSw; (try dsimp only at hSw); obtain ⟨l0_, l1_⟩ := hld _ hSw; go_simp; (try with_reducible rfl)))
                (try simp only [Act.put, List.setIfInBounds_toArray, List.set_cons_zero, List.set_cons_succ])
                (refine take_on 4 (some 118) (v := ?_) rfl rfl (by kernel_rfl) (by kernel_rfl) (by kernel_rfl) (fun _ _ _ h => h) (by rfl) (by assumption) ?_ ?_; rotate_left; · (intro w hSw; (try dsimp only at hSw); go_simp; (try with_reducible rfl)))
                (try simp only [Act.put, List.setIfInBounds_toArray, List.set_cons_zero, List.set_cons_succ])
                (refine take_on 5 (some 119) (v := ?_) rfl rfl (by kernel_rfl) (by kernel_rfl) (by kernel_rfl) (fun _ _ _ h => h) (by rfl) (by assumption) ?_ ?_; rotate_left; · (intro w hSw; (try dsimp only at hSw); go_simp; (try with_reducible rfl)))
                (try simp only [Act.put, List.setIfInBounds_toArray, List.set_cons_zero, List.set_cons_succ])
                (refine take_on 6 (some 120) (v := ?_) rfl rfl (by kernel_rfl) (by kernel_rfl) (by kernel_rfl) (fun _ _ _ h => h) (by rfl) (by assumption) ?_ ?_; rotate_left; · (intro w hSw; (try dsimp only at hSw); go_simp; (try with_reducible rfl)))
                (try simp only [Act.put, List.setIfInBounds_toArray, List.set_cons_zero, List.set_cons_succ])
                (refine take_on 7 (some 121) (v := ?_) rfl rfl (by kernel_rfl) (by kernel_rfl) (by kernel_rfl) (fun _ _ _ h => h) (by rfl) (by assumption) ?_ ?_; rotate_left; · (intro w hSw; (try dsimp only at hSw); obtain ⟨l0_, l1_⟩ := hld _ hSw; go_simp; (try with_reducible rfl)))
                (try simp only [Act.put, List.setIfInBounds_toArray, List.set_cons_zero, List.set_cons_succ])
                refine wpAnyH_ready (rs := [8, 12]) (by kernel_rfl) (by simp) ?_; refine AllReadyH.cons (o := _) rfl (fun K_ hK => ?_) (AllReadyH.cons (o := _) rfl (fun K_ hK => ?_) AllReadyH.nil)
                · go_simp
                  (go_at_call 33; refine (cK HH).mono ?_; rintro e u1 ⟨rfl, y1⟩)
                  refine hK.out _ _ (by (try dsimp only); exact hHeld.trans y1 (by simp)) (fun hHeld => ?_)
                  clear hK K_
                  (try simp only [Act.put, List.setIfInBounds_toArray, List.set_cons_zero, List.set_cons_succ])
                  replace HH := HH.new y1
                  clear y1
                  have hsb : wr.heap.size ≤ u1.heap.size := hHeld.size
                  (refine take_on 9 (some 113) (v := ?_) rfl rfl (by kernel_rfl) (by kernel_rfl) (by kernel_rfl) (fun _ _ _ h => h) (by rfl) (by assumption) ?_ ?_; rotate_left; · (intro w hSw; go_simp; (try with_reducible rfl)))
                  (try simp only [Act.put, List.setIfInBounds_toArray, List.set_cons_zero, List.set_cons_succ])
                  (refine take_on 10 (some 123) (v := ?_) rfl rfl (by kernel_rfl) (by kernel_rfl) (by kernel_rfl) (fun _ _ _ h => h) (by rfl) (by assumption) ?_ ?_; rotate_left; · (intro w hSw; go_simp; (try with_reducible rfl)))
                  (try simp only [Act.put, List.setIfInBounds_toArray, List.set_cons_zero, List.set_cons_succ])
                  (refine take_on 11 (some 124) (v := ?_) rfl rfl (by kernel_rfl) (by kernel_rfl) (by kernel_rfl) (fun _ _ _ h => h) (by rfl) (by assumption) ?_ ?_; rotate_left; · (intro w hSw; go_simp; (try with_reducible rfl)))
                  (try simp only [Act.put, List.setIfInBounds_toArray, List.set_cons_zero, List.set_cons_succ])
                  refine wpAnyH_ready (rs := [12]) (by kernel_rfl) (by simp) ?_; refine AllReadyH.cons (o := _) rfl (fun K_ hK => ?_) AllReadyH.nil
                  go_simp
                  refine hK.out _ _ (by (try dsimp only); exact hHeld.alloc _) (fun hHeld => ?_)
                  clear hK K_
                  (try simp only [Act.put, List.setIfInBounds_toArray, List.set_cons_zero, List.set_cons_succ])
                  replace HH := HH.alloc #[.int .i64 0, .int .i64 0, .int .i64 0] 25
                  generalize u1.alloc (.cells #[.int .i64 0, .int .i64 0, .int .i64 0] 25) = u2 at *
                  generalize u1.heap.size = sb at *
                  have e0_ := HH.blk.cell 0; have f0_ := HH.blk.frozen 0
                  have e1_ := HH.blk.cell 1; have f1_ := HH.blk.frozen 1
                  have e2_ := HH.blk.cell 2; have f2_ := HH.blk.frozen 2
                  simp only [List.getElem?_toArray, List.getElem?_cons_zero, List.getElem?_cons_succ] at e0_ e1_ e2_
                  have HH3 := (((HH).cellSet 0 (.int .i64 kg)).cellSet 1 (.int .i64 kl)).cellSet 2 (.int .i64 kr)
                  simp only [List.setIfInBounds_toArray, List.set_cons_zero, List.set_cons_succ] at HH3
                  have hY : Chg [sb] u2 (((u2.setCell ⟨sb, 0, none⟩ (.int .i64 kg)).setCell ⟨sb, 1, none⟩ (.int .i64 kl)).setCell ⟨sb, 2, none⟩ (.int .i64 kr)) := ((((Chg.refl [sb] u2).setCell (p := ⟨sb, 0, none⟩) (by simp) _).setCell (p := ⟨sb, 1, none⟩) (by simp) _).setCell (p := ⟨sb, 2, none⟩) (by simp) _)
                  refine wpAnyH_ready (rs := [13]) (by kernel_rfl) (by simp) ?_; refine AllReadyH.cons (o := _) rfl (fun K_ hK => ?_) AllReadyH.nil
                  go_simp
                  refine hK.out _ _ (by (try dsimp only); exact hHeld.trans hY (fun i hi hm => by simp at hm; omega)) (fun hHeld => ?_)
                  clear hK K_
                  (try simp only [Act.put, List.setIfInBounds_toArray, List.set_cons_zero, List.set_cons_succ])
                  clear e0_ f0_ e1_ f1_ e2_ f2_ hY HH hsb
                  generalize (((u2.setCell ⟨sb, 0, none⟩ (.int .i64 kg)).setCell ⟨sb, 1, none⟩ (.int .i64 kl)).setCell ⟨sb, 2, none⟩ (.int .i64 kr)) = u3 at *
                  (refine take_on 14 (some 23) (v := ?_) rfl rfl (by kernel_rfl) (by kernel_rfl) (by kernel_rfl) (fun _ _ _ h => h) (by rfl) (by assumption) ?_ ?_; rotate_left; · (intro w hSw; (try dsimp only at hSw); go_simp; (try with_reducible rfl)))
                  (try simp only [Act.put, List.setIfInBounds_toArray, List.set_cons_zero, List.set_cons_succ])
                  refine wpAnyH_done (by kernel_rfl) ?_ _
                  refine NoPanic.normal ?_
                  clear hHeld H
                  clear hld cK
                  go_wp2_with fail
                  go_meet
                  exact ⟨sb, rfl, rfl, HH3⟩
                · clear HH
                  go_simp
                  refine hK.out _ _ (by (try dsimp only); exact ((Chg.refl [] wr).alloc _).drew) (fun hHeld => ?_)
                  clear hK K_
                  (try simp only [Act.put, List.setIfInBounds_toArray, List.set_cons_zero, List.set_cons_succ])
                  have HH := (H.alloc #[.int .i64 0, .int .i64 0, .int .i64 0] 25).new (Chg.refl [] _).drew
                  have hsb : wr.heap.size ≤ wr.heap.size := Nat.le_refl _
                  generalize (wr.alloc (.cells #[.int .i64 0, .int .i64 0, .int .i64 0] 25)).drew = u1 at *
                  generalize hsb_ : wr.heap.size = sb at hsb HH ⊢
                  clear hsb
                  have hsb : wr.heap.size ≤ sb := by omega
                  refine wpAnyH_ready (rs := [8]) (by kernel_rfl) (by simp) ?_; refine AllReadyH.cons (o := _) rfl (fun K_ hK => ?_) AllReadyH.nil
                  go_simp
                  (go_at_call 33; refine (cK (HH.tail)).mono ?_; rintro e u2 ⟨rfl, y1⟩)
                  refine hK.out _ _ (by (try dsimp only); exact hHeld.trans y1 (by simp)) (fun hHeld => ?_)
                  clear hK K_
                  (try simp only [Act.put, List.setIfInBounds_toArray, List.set_cons_zero, List.set_cons_succ])
                  replace HH := HH.new y1
                  clear y1 hsb_
                  (refine take_on 9 (some 113) (v := ?_) rfl rfl (by kernel_rfl) (by kernel_rfl) (by kernel_rfl) (fun _ _ _ h => h) (by rfl) (by assumption) ?_ ?_; rotate_left; · (intro w hSw; go_simp; (try with_reducible rfl)))
                  (try simp only [Act.put, List.setIfInBounds_toArray, List.set_cons_zero, List.set_cons_succ])
                  (refine take_on 10 (some 123) (v := ?_) rfl rfl (by kernel_rfl) (by kernel_rfl) (by kernel_rfl) (fun _ _ _ h => h) (by rfl) (by assumption) ?_ ?_; rotate_left; · (intro w hSw; go_simp; (try with_reducible rfl)))
                  (try simp only [Act.put, List.setIfInBounds_toArray, List.set_cons_zero, List.set_cons_succ])
                  (refine take_on 11 (some 124) (v := ?_) rfl rfl (by kernel_rfl) (by kernel_rfl) (by kernel_rfl) (fun _ _ _ h => h) (by rfl) (by assumption) ?_ ?_; rotate_left; · (intro w hSw; go_simp; (try with_reducible rfl)))
                  (try simp only [Act.put, List.setIfInBounds_toArray, List.set_cons_zero, List.set_cons_succ])
                  have e0_ := HH.blk.cell 0; have f0_ := HH.blk.frozen 0
                  have e1_ := HH.blk.cell 1; have f1_ := HH.blk.frozen 1
                  have e2_ := HH.blk.cell 2; have f2_ := HH.blk.frozen 2
                  simp only [List.getElem?_toArray, List.getElem?_cons_zero, List.getElem?_cons_succ] at e0_ e1_ e2_
                  have HH3 := (((HH).cellSet 0 (.int .i64 kg)).cellSet 1 (.int .i64 kl)).cellSet 2 (.int .i64 kr)
                  simp only [List.setIfInBounds_toArray, List.set_cons_zero, List.set_cons_succ] at HH3
                  have hY : Chg [sb] u2 (((u2.setCell ⟨sb, 0, none⟩ (.int .i64 kg)).setCell ⟨sb, 1, none⟩ (.int .i64 kl)).setCell ⟨sb, 2, none⟩ (.int .i64 kr)) := ((((Chg.refl [sb] u2).setCell (p := ⟨sb, 0, none⟩) (by simp) _).setCell (p := ⟨sb, 1, none⟩) (by simp) _).setCell (p := ⟨sb, 2, none⟩) (by simp) _)
                  refine wpAnyH_ready (rs := [13]) (by kernel_rfl) (by simp) ?_; refine AllReadyH.cons (o := _) rfl (fun K_ hK => ?_) AllReadyH.nil
                  go_simp
                  refine hK.out _ _ (by (try dsimp only); exact hHeld.trans hY (fun i hi hm => by simp at hm; omega)) (fun hHeld => ?_)
                  clear hK K_
                  (try simp only [Act.put, List.setIfInBounds_toArray, List.set_cons_zero, List.set_cons_succ])
                  clear e0_ f0_ e1_ f1_ e2_ f2_ hY HH hsb
                  generalize (((u2.setCell ⟨sb, 0, none⟩ (.int .i64 kg)).setCell ⟨sb, 1, none⟩ (.int .i64 kl)).setCell ⟨sb, 2, none⟩ (.int .i64 kr)) = u3 at *
                  (refine take_on 14 (some 23) (v := ?_) rfl rfl (by kernel_rfl) (by kernel_rfl) (by kernel_rfl) (fun _ _ _ h => h) (by rfl) (by assumption) ?_ ?_; rotate_left; · (intro w hSw; (try dsimp only at hSw); go_simp; (try with_reducible rfl)))
                  (try simp only [Act.put, List.setIfInBounds_toArray, List.set_cons_zero, List.set_cons_succ])
                  refine wpAnyH_done (by kernel_rfl) ?_ _
                  refine NoPanic.normal ?_
                  clear hHeld H
                  clear hld cK
                  go_wp2_with fail
                  go_meet
                  exact ⟨sb, rfl, rfl, HH3⟩
              case rest =>
                obtain ⟨sb, rfl, rfl, H3⟩ := hcut
                clear H hld cK
                have e0_ := H3.blk.cell 0; have e2_ := H3.blk.cell 2
                simp only [List.getElem?_toArray, List.getElem?_cons_zero, List.getElem?_cons_succ] at e0_ e2_
                have H := H3.tail
                clear H3
                go_upto_region 28 with fail
                go_cut [24] from 125 to 133 (fun cv wx => cv = .bool ofb ∧ SepC w wx (gdT dd gq mp q hp hb t 40 4 8 8 gl16 (D2) :: blkT wb 43 (wdC hp gq q t dd) :: ownT (numE .i64) 3 (.slice (some ⟨ab, aoff, none⟩) N7 c7) F7 :: ownT sltE 60 (.slice Ak NW ck) KW :: []))
                case first => cases rz <;> (go_wp2_with fail; go_meet; exact ⟨by rw [← hofb.out]; rfl, H⟩)
                case rest =>
                  obtain ⟨rfl, H4⟩ := hcut
                  clear H e0_ e2_ hrz hge
                  have H := H4
                  clear H4
                  go_wp2_with fail
                  go_loopw [20, 25] (fun s20 s25 wr => ∃ i : Nat, i ≤ 8 ∧ s25 = .int .i64 i ∧ s20 = .bool (tl (8 * j + i)) ∧ SepC w wr (gdT dd gq mp q hp hb t 40 4 8 8 gl16 (D2) :: blkT wb 43 (wdC hp gq q t dd) :: ownT (numE .i64) 3 (.slice (some ⟨ab, aoff, none⟩) N7 c7) F7 :: ownT sltE 60 (.slice Ak NW ck) KW :: [])) (fun _ s25 _ => 8 - (intOf s25).toNat)
                  case atStart => exact ⟨0, by omega, rfl, rfl, H⟩
                  case round =>
                    clear H
                    obtain ⟨i, hi, rfl, rfl, H⟩ := hrel
                    by_cases hi8 : i < 8
                    · have hiz : (i : Int) < 8 := by omega
                      obtain ⟨x, hx0, hx1, hx2, _⟩ := hsq i hi8
                      have hka := hKa i x hi8 hx0
                      have hts := hst.out i x hi8 hx0
                      have hXl : 8 * j + i < NW := by have := hNW.out; omega
                      have hXz : 8 * (j : Int) + (i : Int) < (NW : Int) := by omega
                      have hfs := hws qj.f (i : Int)
                      rw [hx1, Option.map_some] at hfs
                      have cS := fun {z : World} {l_ : List Th} (H' : SepC w z (gdT dd gq mp q hp hb t 40 4 8 8 gl16 (D2) :: l_)) => H'.kSlot qj.f (i : Int) hqr
                      rw [slotV_at hfs, hfs] at cS
                      simp only [Option.isSome_some] at cS
                      clear hfs hx0 hx1 hx2
                      obtain ⟨y, hy⟩ : ∃ y : Slt, y = (if qj.f ∈ OL ∧ (i : Int) = (ii : Int) then Slt.no else x) := ⟨_, rfl⟩
                      rw [← hy] at cS
                      obtain ⟨yk, yt, ⟨yw, yu, yx⟩⟩ := y
                      obtain ⟨kd, t_, ⟨rw_, ru, rx⟩⟩ := x
                      simp only [Slt.cl] at cS
                      simp only at hts
                      replace hy := Lib.hid hy; replace hts := Lib.hid hts; replace hka := Lib.hid hka
                      have hld : ∀ z, Chg [] wr z → (z.cell? ⟨wb, 2, none⟩ = some (.pointer (some ⟨q, 0, none⟩)) ∧ z.cell? ⟨ab, aoff + j, none⟩ = some (.int .i64 qj.f)) := fun z hz => by
                        have H2 := H.new hz
                        obtain ⟨b_, o_, x_, e_, _, h_, t_⟩ := SlN.get (H2.pick 2 rfl).own.slg hjl
                        cases e_; rw [hqF.out] at h_; cases h_
                        exact ⟨(wdC_cells (H2.pick 1 rfl).blk).2.2.1, t_⟩
                      go_upto_region 32 with fail
                      go_cut [26, 27] from 138 to 150 (fun xv iv wx => ∃ sb : Nat, xv = .pointer (some ⟨sb, 0, none⟩) ∧ iv = .bool true ∧ SepC w wx (blkT sb 60 #[.int .i64 yk, .int .i64 yt, .bool yw, .bool yu, .bool yx] :: gdT dd gq mp q hp hb t 40 4 8 8 gl16 (D2) :: blkT wb 43 (wdC hp gq q t dd) :: ownT (numE .i64) 3 (.slice (some ⟨ab, aoff, none⟩) N7 c7) F7 :: ownT sltE 60 (.slice Ak NW ck) KW :: []))
                      case first =>
                        have HH := H.new (Chg.refl [] wr).drew
                        refine wp_region_noPanic ?_
                        refine wp_region_held_drew (S := (fun w' => Chg [] wr w')) (by kernel_rfl) ?_ (fun hHeld => ?_)
                        · exact (Chg.refl [] wr).drew
                        (refine take_on 0 (some 139) (v := ?_) rfl rfl (by kernel_rfl) (by kernel_rfl) (by kernel_rfl) (fun _ _ _ h => h) (by rfl) (by assumption) ?_ ?_; rotate_left; · (intro w hSw; (try dsimp only at hSw); go_simp; (try with_reducible rfl)))
                        (try simp only [Act.put, List.setIfInBounds_toArray, List.set_cons_zero, List.set_cons_succ])
                        (refine take_on 1 (some 140) (v := ?_) rfl rfl (by kernel_rfl) (by kernel_rfl) (by kernel_rfl) (fun _ _ _ h => h) (by rfl) (by assumption) ?_ ?_; rotate_left; · (intro w hSw; (try dsimp only at hSw); go_simp; (try with_reducible rfl)))
                        (try simp only [Act.put, List.setIfInBounds_toArray, List.set_cons_zero, List.set_cons_succ])
                        (refine take_on 2 (some 141) (v := ?_) rfl rfl (by kernel_rfl) (by kernel_rfl) (by kernel_rfl) (fun _ _ _ h => h) (by rfl) (by assumption) ?_ ?_; rotate_left; · (intro w hSw; (try dsimp only at hSw); go_simp; (try with_reducible rfl)))
                        (try simp only [Act.put, List.setIfInBounds_toArray, List.set_cons_zero, List.set_cons_succ])
                        (refine take_on 3 (some 142) (v := ?_) rfl rfl (by kernel_rfl) (by kernel_rfl) (by kernel_rfl) (fun _ _ _ h => h) (by rfl) (by assumption) ?_ ?_; rotate_left; · (intro w hSw; (try dsimp only at hSw); obtain ⟨l0_, l1_⟩ := hld _ hSw; go_simp; (try with_reducible rfl)))
                        (try simp only [Act.put, List.setIfInBounds_toArray, List.set_cons_zero, List.set_cons_succ])
                        (refine take_on 4 (some 143) (v := ?_) rfl rfl (by kernel_rfl) (by kernel_rfl) (by kernel_rfl) (fun _ _ _ h => h) (by rfl) (by assumption) ?_ ?_; rotate_left; · (intro w hSw; (try dsimp only at hSw); go_simp; (try with_reducible rfl)))
                        (try simp only [Act.put, List.setIfInBounds_toArray, List.set_cons_zero, List.set_cons_succ])
                        (refine take_on 5 (some 144) (v := ?_) rfl rfl (by kernel_rfl) (by kernel_rfl) (by kernel_rfl) (fun _ _ _ h => h) (by rfl) (by assumption) ?_ ?_; rotate_left; · (intro w hSw; (try dsimp only at hSw); go_simp; (try with_reducible rfl)))
                        (try simp only [Act.put, List.setIfInBounds_toArray, List.set_cons_zero, List.set_cons_succ])
                        (refine take_on 6 (some 145) (v := ?_) rfl rfl (by kernel_rfl) (by kernel_rfl) (by kernel_rfl) (fun _ _ _ h => h) (by rfl) (by assumption) ?_ ?_; rotate_left; · (intro w hSw; (try dsimp only at hSw); go_simp; (try with_reducible rfl)))
                        (try simp only [Act.put, List.setIfInBounds_toArray, List.set_cons_zero, List.set_cons_succ])
                        (refine take_on 7 (some 146) (v := ?_) rfl rfl (by kernel_rfl) (by kernel_rfl) (by kernel_rfl) (fun _ _ _ h => h) (by rfl) (by assumption) ?_ ?_; rotate_left; · (intro w hSw; (try dsimp only at hSw); obtain ⟨l0_, l1_⟩ := hld _ hSw; go_simp; (try with_reducible rfl)))
                        (try simp only [Act.put, List.setIfInBounds_toArray, List.set_cons_zero, List.set_cons_succ])
                        (refine take_on 8 (some 147) (v := ?_) rfl rfl (by kernel_rfl) (by kernel_rfl) (by kernel_rfl) (fun _ _ _ h => h) (by rfl) (by assumption) ?_ ?_; rotate_left; · (intro w hSw; (try dsimp only at hSw); go_simp; (try with_reducible rfl)))
                        (try simp only [Act.put, List.setIfInBounds_toArray, List.set_cons_zero, List.set_cons_succ])
                        refine wpAnyH_ready (rs := [9, 13]) (by kernel_rfl) (by simp) ?_; refine AllReadyH.cons (o := _) rfl (fun K_ hK => ?_) (AllReadyH.cons (o := _) rfl (fun K_ hK => ?_) AllReadyH.nil)
                        · go_simp
                          (go_at_call 25; refine (cS HH).mono ?_; rintro e u1 ⟨rfl, y1⟩)
                          refine hK.out _ _ (by (try dsimp only); exact hHeld.trans y1 (by simp)) (fun hHeld => ?_)
                          clear hK K_
                          (try simp only [Act.put, List.setIfInBounds_toArray, List.set_cons_zero, List.set_cons_succ])
                          replace HH := HH.new y1
                          clear y1
                          have hsb : wr.heap.size ≤ u1.heap.size := hHeld.size
                          (refine take_on 10 (some 138) (v := ?_) rfl rfl (by kernel_rfl) (by kernel_rfl) (by kernel_rfl) (fun _ _ _ h => h) (by rfl) (by assumption) ?_ ?_; rotate_left; · (intro w hSw; go_simp; (try with_reducible rfl)))
                          (try simp only [Act.put, List.setIfInBounds_toArray, List.set_cons_zero, List.set_cons_succ])
                          (refine take_on 11 (some 149) (v := ?_) rfl rfl (by kernel_rfl) (by kernel_rfl) (by kernel_rfl) (fun _ _ _ h => h) (by rfl) (by assumption) ?_ ?_; rotate_left; · (intro w hSw; go_simp; (try with_reducible rfl)))
                          (try simp only [Act.put, List.setIfInBounds_toArray, List.set_cons_zero, List.set_cons_succ])
                          (refine take_on 12 (some 150) (v := ?_) rfl rfl (by kernel_rfl) (by kernel_rfl) (by kernel_rfl) (fun _ _ _ h => h) (by rfl) (by assumption) ?_ ?_; rotate_left; · (intro w hSw; go_simp; (try with_reducible rfl)))
                          (try simp only [Act.put, List.setIfInBounds_toArray, List.set_cons_zero, List.set_cons_succ])
                          refine wpAnyH_ready (rs := [13]) (by kernel_rfl) (by simp) ?_; refine AllReadyH.cons (o := _) rfl (fun K_ hK => ?_) AllReadyH.nil
                          go_simp
                          refine hK.out _ _ (by (try dsimp only); exact hHeld.alloc _) (fun hHeld => ?_)
                          clear hK K_
                          (try simp only [Act.put, List.setIfInBounds_toArray, List.set_cons_zero, List.set_cons_succ])
                          replace HH := HH.alloc #[.int .i64 0, .int .i64 0, .bool false, .bool false, .bool false] 60
                          generalize u1.alloc (.cells #[.int .i64 0, .int .i64 0, .bool false, .bool false, .bool false] 60) = u2 at *
                          generalize u1.heap.size = sb at *
                          have e0_ := HH.blk.cell 0; have f0_ := HH.blk.frozen 0
                          have e1_ := HH.blk.cell 1; have f1_ := HH.blk.frozen 1
                          have e2_ := HH.blk.cell 2; have f2_ := HH.blk.frozen 2
                          have e3_ := HH.blk.cell 3; have f3_ := HH.blk.frozen 3
                          have e4_ := HH.blk.cell 4; have f4_ := HH.blk.frozen 4
                          simp only [List.getElem?_toArray, List.getElem?_cons_zero, List.getElem?_cons_succ] at e0_ e1_ e2_ e3_ e4_
                          have HH3 := (((((HH).cellSet 0 (.int .i64 yk)).cellSet 1 (.int .i64 yt)).cellSet 2 (.bool yw)).cellSet 3 (.bool yu)).cellSet 4 (.bool yx)
                          simp only [List.setIfInBounds_toArray, List.set_cons_zero, List.set_cons_succ] at HH3
                          have hY : Chg [sb] u2 (((((u2.setCell ⟨sb, 0, none⟩ (.int .i64 yk)).setCell ⟨sb, 1, none⟩ (.int .i64 yt)).setCell ⟨sb, 2, none⟩ (.bool yw)).setCell ⟨sb, 3, none⟩ (.bool yu)).setCell ⟨sb, 4, none⟩ (.bool yx)) := ((((((Chg.refl [sb] u2).setCell (p := ⟨sb, 0, none⟩) (by simp) _).setCell (p := ⟨sb, 1, none⟩) (by simp) _).setCell (p := ⟨sb, 2, none⟩) (by simp) _).setCell (p := ⟨sb, 3, none⟩) (by simp) _).setCell (p := ⟨sb, 4, none⟩) (by simp) _)
                          refine wpAnyH_ready (rs := [14]) (by kernel_rfl) (by simp) ?_; refine AllReadyH.cons (o := _) rfl (fun K_ hK => ?_) AllReadyH.nil
                          go_simp
                          refine hK.out _ _ (by (try dsimp only); exact hHeld.trans hY (fun i hi hm => by simp at hm; omega)) (fun hHeld => ?_)
                          clear hK K_
                          (try simp only [Act.put, List.setIfInBounds_toArray, List.set_cons_zero, List.set_cons_succ])
                          clear e0_ f0_ e1_ f1_ e2_ f2_ e3_ f3_ e4_ f4_ hY HH hsb
                          generalize (((((u2.setCell ⟨sb, 0, none⟩ (.int .i64 yk)).setCell ⟨sb, 1, none⟩ (.int .i64 yt)).setCell ⟨sb, 2, none⟩ (.bool yw)).setCell ⟨sb, 3, none⟩ (.bool yu)).setCell ⟨sb, 4, none⟩ (.bool yx)) = u3 at *
                          (refine take_on 15 (some 27) (v := ?_) rfl rfl (by kernel_rfl) (by kernel_rfl) (by kernel_rfl) (fun _ _ _ h => h) (by rfl) (by assumption) ?_ ?_; rotate_left; · (intro w hSw; (try dsimp only at hSw); go_simp; (try with_reducible rfl)))
                          (try simp only [Act.put, List.setIfInBounds_toArray, List.set_cons_zero, List.set_cons_succ])
                          refine wpAnyH_done (by kernel_rfl) ?_ _
                          refine NoPanic.normal ?_
                          clear hHeld H
                          clear hld cS
                          go_wp2_with fail
                          go_meet
                          exact ⟨sb, rfl, rfl, HH3⟩
                        · clear HH
                          go_simp
                          refine hK.out _ _ (by (try dsimp only); exact ((Chg.refl [] wr).alloc _).drew) (fun hHeld => ?_)
                          clear hK K_
                          (try simp only [Act.put, List.setIfInBounds_toArray, List.set_cons_zero, List.set_cons_succ])
                          have HH := (H.alloc #[.int .i64 0, .int .i64 0, .bool false, .bool false, .bool false] 60).new (Chg.refl [] _).drew
                          have hsb : wr.heap.size ≤ wr.heap.size := Nat.le_refl _
                          generalize (wr.alloc (.cells #[.int .i64 0, .int .i64 0, .bool false, .bool false, .bool false] 60)).drew = u1 at *
                          generalize hsb_ : wr.heap.size = sb at hsb HH ⊢
                          clear hsb
                          have hsb : wr.heap.size ≤ sb := by omega
                          refine wpAnyH_ready (rs := [9]) (by kernel_rfl) (by simp) ?_; refine AllReadyH.cons (o := _) rfl (fun K_ hK => ?_) AllReadyH.nil
                          go_simp
                          (go_at_call 25; refine (cS (HH.tail)).mono ?_; rintro e u2 ⟨rfl, y1⟩)
                          refine hK.out _ _ (by (try dsimp only); exact hHeld.trans y1 (by simp)) (fun hHeld => ?_)
                          clear hK K_
                          (try simp only [Act.put, List.setIfInBounds_toArray, List.set_cons_zero, List.set_cons_succ])
                          replace HH := HH.new y1
                          clear y1 hsb_
                          (refine take_on 10 (some 138) (v := ?_) rfl rfl (by kernel_rfl) (by kernel_rfl) (by kernel_rfl) (fun _ _ _ h => h) (by rfl) (by assumption) ?_ ?_; rotate_left; · (intro w hSw; go_simp; (try with_reducible rfl)))
                          (try simp only [Act.put, List.setIfInBounds_toArray, List.set_cons_zero, List.set_cons_succ])
                          (refine take_on 11 (some 149) (v := ?_) rfl rfl (by kernel_rfl) (by kernel_rfl) (by kernel_rfl) (fun _ _ _ h => h) (by rfl) (by assumption) ?_ ?_; rotate_left; · (intro w hSw; go_simp; (try with_reducible rfl)))
                          (try simp only [Act.put, List.setIfInBounds_toArray, List.set_cons_zero, List.set_cons_succ])
                          (refine take_on 12 (some 150) (v := ?_) rfl rfl (by kernel_rfl) (by kernel_rfl) (by kernel_rfl) (fun _ _ _ h => h) (by rfl) (by assumption) ?_ ?_; rotate_left; · (intro w hSw; go_simp; (try with_reducible rfl)))
                          (try simp only [Act.put, List.setIfInBounds_toArray, List.set_cons_zero, List.set_cons_succ])
                          have e0_ := HH.blk.cell 0; have f0_ := HH.blk.frozen 0
                          have e1_ := HH.blk.cell 1; have f1_ := HH.blk.frozen 1
                          have e2_ := HH.blk.cell 2; have f2_ := HH.blk.frozen 2
                          have e3_ := HH.blk.cell 3; have f3_ := HH.blk.frozen 3
                          have e4_ := HH.blk.cell 4; have f4_ := HH.blk.frozen 4
                          simp only [List.getElem?_toArray, List.getElem?_cons_zero, List.getElem?_cons_succ] at e0_ e1_ e2_ e3_ e4_
                          have HH3 := (((((HH).cellSet 0 (.int .i64 yk)).cellSet 1 (.int .i64 yt)).cellSet 2 (.bool yw)).cellSet 3 (.bool yu)).cellSet 4 (.bool yx)
                          simp only [List.setIfInBounds_toArray, List.set_cons_zero, List.set_cons_succ] at HH3
                          have hY : Chg [sb] u2 (((((u2.setCell ⟨sb, 0, none⟩ (.int .i64 yk)).setCell ⟨sb, 1, none⟩ (.int .i64 yt)).setCell ⟨sb, 2, none⟩ (.bool yw)).setCell ⟨sb, 3, none⟩ (.bool yu)).setCell ⟨sb, 4, none⟩ (.bool yx)) := ((((((Chg.refl [sb] u2).setCell (p := ⟨sb, 0, none⟩) (by simp) _).setCell (p := ⟨sb, 1, none⟩) (by simp) _).setCell (p := ⟨sb, 2, none⟩) (by simp) _).setCell (p := ⟨sb, 3, none⟩) (by simp) _).setCell (p := ⟨sb, 4, none⟩) (by simp) _)
                          refine wpAnyH_ready (rs := [14]) (by kernel_rfl) (by simp) ?_; refine AllReadyH.cons (o := _) rfl (fun K_ hK => ?_) AllReadyH.nil
                          go_simp
                          refine hK.out _ _ (by (try dsimp only); exact hHeld.trans hY (fun i hi hm => by simp at hm; omega)) (fun hHeld => ?_)
                          clear hK K_
                          (try simp only [Act.put, List.setIfInBounds_toArray, List.set_cons_zero, List.set_cons_succ])
                          clear e0_ f0_ e1_ f1_ e2_ f2_ e3_ f3_ e4_ f4_ hY HH hsb
                          generalize (((((u2.setCell ⟨sb, 0, none⟩ (.int .i64 yk)).setCell ⟨sb, 1, none⟩ (.int .i64 yt)).setCell ⟨sb, 2, none⟩ (.bool yw)).setCell ⟨sb, 3, none⟩ (.bool yu)).setCell ⟨sb, 4, none⟩ (.bool yx)) = u3 at *
                          (refine take_on 15 (some 27) (v := ?_) rfl rfl (by kernel_rfl) (by kernel_rfl) (by kernel_rfl) (fun _ _ _ h => h) (by rfl) (by assumption) ?_ ?_; rotate_left; · (intro w hSw; (try dsimp only at hSw); go_simp; (try with_reducible rfl)))
                          (try simp only [Act.put, List.setIfInBounds_toArray, List.set_cons_zero, List.set_cons_succ])
                          refine wpAnyH_done (by kernel_rfl) ?_ _
                          refine NoPanic.normal ?_
                          clear hHeld H
                          clear hld cS
                          go_wp2_with fail
                          go_meet
                          exact ⟨sb, rfl, rfl, HH3⟩
                      case rest =>
                        obtain ⟨sb, rfl, rfl, H12⟩ := hcut
                        clear H hld cS
                        obtain ⟨b8, o8, x8, rfl, _, hx8_, hc8⟩ := SlG.get (H12.pick 4 rfl).own.slg hXl
                        rw [hka.out] at hx8_; cases hx8_
                        obtain ⟨d0, d1, d2, d3, d4⟩ := sltAt5 hc8
                        simp only [show sltE.k = 5 from rfl] at d0 d1 d2 d3 d4
                        clear hc8
                        go_upto_region 34 with fail
                        have H13 := H12.alloc #[.int .i64 kd, .int .i64 t_, .bool rw_, .bool ru, .bool rx] 60
                        clear H12 d0 d1 d2 d3 d4
                        generalize wc.alloc (.cells #[.int .i64 kd, .int .i64 t_, .bool rw_, .bool ru, .bool rx] 60) = z14 at *
                        generalize wc.heap.size = ob at *
                        have b1 := (H13.pick 0 rfl).blk; have b2 := (H13.pick 1 rfl).blk
                        have e0 := b1.cell 0; have e1 := b1.cell 1; have e2 := b1.cell 2; have e3 := b1.cell 3; have e4 := b1.cell 4
                        have f0 := b2.cell 0; have f1 := b2.cell 1; have f2 := b2.cell 2; have f3 := b2.cell 3; have f4 := b2.cell 4
                        simp only [List.getElem?_toArray, List.getElem?_cons_zero, List.getElem?_cons_succ] at e0 e1 e2 e3 e4 f0 f1 f2 f3 f4
                        cases ofb
                        · have hy_ := hy.out
                          rw [if_neg (fun h_ => by have := hof2.out.1 h_.1; cases this)] at hy_
                          cases hy_
                          have het : tl (8 * j + i + 1) = tl (8 * j + i) := by rw [hts.out]; simp
                          replace het := Lib.hid het
                          have hns := run_neSl (⟨yk, yt, ⟨yw, yu, yx⟩⟩ : Slt) (⟨yk, yt, ⟨yw, yu, yx⟩⟩ : Slt)
                          rw [decide_eq_true (rfl : (⟨yk, yt, ⟨yw, yu, yx⟩⟩ : Slt) = (⟨yk, yt, ⟨yw, yu, yx⟩⟩ : Slt))] at hns
                          simp only [Slt.cl, Bool.not_true] at hns
                          have H14 := H13.tail.tail
                          clear H13
                          go_wp2_with fail
                          go_roundw
                          case rel => exact ⟨i + 1, by omega, by go_num, (by rw [← Nat.add_assoc, het.out]), H14⟩
                          case measure => simp [intOf]; omega
                        · by_cases he : i = ii
                          · have hd : ((i : Int) == (ii : Int)) = true := by simp; omega
                            have hy_ := hy.out
                            rw [if_pos ⟨hof2.out.2 rfl, by omega⟩] at hy_
                            simp only [Slt.no] at hy_
                            cases hy_
                            have het : tl (8 * j + i + 1) = (tl (8 * j + i) || (kd != 0)) := by rw [hts.out, decide_eq_true he]; simp
                            replace het := Lib.hid het
                            clear b1 b2
                            replace he := Lib.hid he
                            generalize tl (8 * j + i) = tb at *
                            go_upto_region 35 with fail
                            go_cut [20] from 164 to 169 (fun cv wx => cv = .bool (tb || (kd != 0)) ∧ wx = z14)
                            case first => cases tb <;> (go_wp2_with fail; go_meet; exact ⟨rfl, rfl⟩)
                            case rest =>
                              obtain ⟨rfl, rfl⟩ := hcut
                              have z0_ := H13.blk.frozen 0
                              have z1_ := H13.blk.frozen 1
                              have z2_ := H13.blk.frozen 2
                              have z3_ := H13.blk.frozen 3
                              have z4_ := H13.blk.frozen 4
                              go_upto_region 37 with fail
                              have H15 := (((((H13).cellSet 0 (.int .i64 0)).cellSet 1 (.int .i64 0)).cellSet 2 (.bool false)).cellSet 3 (.bool false)).cellSet 4 (.bool false)
                              simp only [List.setIfInBounds_toArray, List.set_cons_zero, List.set_cons_succ] at H15
                              clear H13 e0 e1 e2 e3 e4 f0 f1 f2 f3 f4 z0_ z1_ z2_ z3_ z4_
                              generalize (((((wc.setCell ⟨ob, 0, none⟩ (.int .i64 0)).setCell ⟨ob, 1, none⟩ (.int .i64 0)).setCell ⟨ob, 2, none⟩ (.bool false)).setCell ⟨ob, 3, none⟩ (.bool false)).setCell ⟨ob, 4, none⟩ (.bool false)) = z15 at *
                              have b1 := (H15.pick 0 rfl).blk; have b2 := (H15.pick 1 rfl).blk
                              have e0 := b1.cell 0; have e1 := b1.cell 1; have e2 := b1.cell 2; have e3 := b1.cell 3; have e4 := b1.cell 4
                              have f0 := b2.cell 0; have f1 := b2.cell 1; have f2 := b2.cell 2; have f3 := b2.cell 3; have f4 := b2.cell 4
                              simp only [List.getElem?_toArray, List.getElem?_cons_zero, List.getElem?_cons_succ] at e0 e1 e2 e3 e4 f0 f1 f2 f3 f4
                              have hns := run_neSl Slt.no Slt.no
                              rw [decide_eq_true (rfl : Slt.no = Slt.no)] at hns
                              simp only [Slt.cl, Slt.no, Bool.not_true] at hns
                              have H14 := H15.tail.tail
                              clear H15
                              go_wp2_with fail
                              go_roundw
                              case rel => exact ⟨i + 1, by omega, by go_num, (by rw [← Nat.add_assoc, het.out]), H14⟩
                              case measure => simp [intOf]; omega
                          · have hd : ((i : Int) == (ii : Int)) = false := by simp; omega
                            have hy_ := hy.out
                            rw [if_neg (fun h_ => he (by omega))] at hy_
                            cases hy_
                            have het : tl (8 * j + i + 1) = tl (8 * j + i) := by rw [hts.out, decide_eq_false he]; simp
                            replace het := Lib.hid het
                            replace he := Lib.hid he
                            have hns := run_neSl (⟨yk, yt, ⟨yw, yu, yx⟩⟩ : Slt) (⟨yk, yt, ⟨yw, yu, yx⟩⟩ : Slt)
                            rw [decide_eq_true (rfl : (⟨yk, yt, ⟨yw, yu, yx⟩⟩ : Slt) = (⟨yk, yt, ⟨yw, yu, yx⟩⟩ : Slt))] at hns
                            simp only [Slt.cl, Bool.not_true] at hns
                            have H14 := H13.tail.tail
                            clear H13
                            go_wp2_with fail
                            go_roundw
                            case rel => exact ⟨i + 1, by omega, by go_num, (by rw [← Nat.add_assoc, het.out]), H14⟩
                            case measure => simp [intOf]; omega
                    · obtain rfl : i = 8 := by omega
                      have hiz : ¬ (8 : Int) < 8 := by omega
                      go_wp2_with fail
                      go_roundw
                      case rel => exact ⟨j + 1, by omega, by go_num, rfl, H⟩
                      case measure => simp [intOf]; omega
            · have ej : N7 = j := by omega
              subst ej
              have hjz : ¬ (N7 : Int) < (N7 : Int) := by omega
              have hnt_ := hnT.out
              generalize tl (8 * N7) = tb at *
              cases tb
              · obtain ⟨w0_, w1_, w2_, w3_, w4_⟩ := wdC_cells (H.pick 1 rfl).blk
                go_wp2_with fail
                refine (cM H).mono ?_; rintro e z20 ⟨rfl, y_⟩
                go_wp2_with fail
                go_ret
                exact ⟨rfl, (H.new y_).1⟩
              · obtain ⟨w0_, w1_, w2_, w3_, w4_⟩ := wdC_cells (H.pick 1 rfl).blk
                go_wp2_with fail
                refine (cM H).mono ?_; rintro e z20 ⟨rfl, y_⟩
                go_wp2_with fail
                go_ret
                exact ⟨rfl, (H.new y_).1⟩

theorem GuardWords_walk (A : Option Addr) (n c : Nat) (P : List Pu) (B : Option Addr) (m e0 : Nat) (L : List Gst) (g i_ : Int) (w : World) (hP : SlP w A n P) (hl : GopsIn w B m L) (hg : 0 ≤ g ∧ g ≤ 255) (hi_ : 0 ≤ i_ ∧ i_ ≤ 255) :
    Calls Try.prog 8 #[.slice A n c, .slice B m e0, .int .u8 g, .int .u8 i_] w fun e w' => e = .returned (.bool true) ∧ Chg [] w w' := by
  obtain ⟨k, rfl⟩ := Int.eq_ofNat_of_zero_le hg.1
  obtain ⟨k2, rfl⟩ := Int.eq_ofNat_of_zero_le hi_.1
  exact lawGuardWords_any A n c P B m e0 L k k2 w hP hl (by omega) (by omega)

end Go.Proofs.Ytgjfidjhbkaobaa
