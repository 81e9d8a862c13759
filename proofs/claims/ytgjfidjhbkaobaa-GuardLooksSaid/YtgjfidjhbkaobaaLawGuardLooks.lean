/-
  GuardLooks: the law, walked from contracts.
-/
import Derived.Test.YtgjfidjhbkaobaaGuardW
import Derived.Test.YtgjfidjhbkaobaaGS4
import Derived.Deep.CutRange
namespace Go.Proofs.Ytgjfidjhbkaobaa
open Go.RowKit Go.Maps

theorem Slot_info : ((Try.prog.info? 60).map (fun i => (i.zero, i.size, i.bytes))) = some (some (.agg #[.int .i64 0, .int .i64 0, .bool false, .bool false, .bool false]), 5, 24) := by kernel_rfl
set_option maxHeartbeats 4000000 in
theorem RAgr_any (x : Slt) (e : Ent) (w : World) : Calls Try.prog 27 #[.agg x.cl.toArray, .agg e.cs] w fun z w' => z = .returned (.bool (agreeB x e)) ∧ Chg [] w w' := by
  obtain ⟨xk, xt, ⟨xw, xu, xx⟩⟩ := x
  obtain ⟨ep, ew, eu, ea, ed, es, en, eb, ef⟩ := e
  unfold agreeB
  simp only [Slt.cl, Ent.cs]
  go_enter Try.func27, Try.ntmps27
  go_wp2_with fail
  all_goals (go_ret; refine ⟨?_, ((Chg.refl [] w).alloc _).alloc _⟩; simp_all; try (cases en <;> cases xx <;> simp_all))
/-- words of the guest are set, one behind the other -/
def setsGd (d : Gd) (l : List Pu) : Gd := l.foldl (fun d x => ⟨setGd 40 gl16 d.s x.g x.i x.v, d.T, d.l⟩) d
theorem setsGd_take {d : Gd} {l : List Pu} {k : Nat} {x : Pu} (h : l[k]? = some x) : setsGd d (l.take (k + 1)) = ⟨setGd 40 gl16 (setsGd d (l.take k)).s x.g x.i x.v, (setsGd d (l.take k)).T, (setsGd d (l.take k)).l⟩ := by
  obtain ⟨h1, h2⟩ := List.getElem?_eq_some_iff.1 h
  rw [List.take_succ_eq_append_getElem h1, h2]
  unfold setsGd
  rw [List.foldl_append]; rfl
/-- what a slot is behind a Look -/
def lkY (g : Int) (x : Slt) : Slt := ⟨x.kind, x.to_, ⟨!((x.kind == 2) && (x.to_ == g)) && x.r.w, x.r.u, x.r.x⟩⟩
theorem look_slot {d : Gd} (h : GdOk 40 4 8 gl16 d) {g p : Int} (hl : looseB d g = true) (hp : ofP d.s.L g = [p]) {f i : Int} {x : Slt} (hx : slotP d.s.L f i = some x) :
    slotP (lookG 40 gl16 d g).s.L f i = some (if ((f == p) && ((x.kind == 2) && !agreeB (lkY g x) (entG 40 gl16 (lookG 40 gl16 d g).s.W g i))) = true then Slt.no else lkY g x) := by
  rw [slot_look h hl, hx, Option.map_some, (Still.look h g).ent h.map h.ap]
  have hy : (if x.kind = 2 ∧ x.to_ = g then (⟨2, g, x.r.noW⟩ : Slt) else x) = lkY g x := by
    unfold lkY
    by_cases h1 : x.kind = 2 ∧ x.to_ = g
    · rw [if_pos h1, Slt.ext_]; obtain ⟨h2, h3⟩ := h1; simp [h2, h3, Rg.noW]
    · rw [if_neg h1]
      have : ((x.kind == 2) && (x.to_ == g)) = false := by rw [Bool.eq_false_iff]; intro h2; rw [Bool.and_eq_true] at h2; exact h1 ⟨by simpa using h2.1, by simpa using h2.2⟩
      rw [this]; rfl
  simp only [hy]
  have hk : (lkY g x).kind = x.kind := rfl
  rw [hk, hp]
  simp
set_option maxRecDepth 100000 in
set_option maxHeartbeats 20000000 in
/-- behind a Look a loose frame's own leaves agree with its entries, or are empty; no leaf tells it with W; no other slot has turned -/
theorem lawGuardLooks_any (A : Option Addr) (n c : Nat) (P : List Pu) (B : Option Addr) (m e0 : Nat) (L : List Gst) (A2 : Option Addr) (n2 c2 : Nat) (E : List Pu) (w : World) (hP : SlP w A n P) (hl : GopsIn w B m L) (hE : SlP w A2 n2 E) :
    Calls Try.prog 4 #[.slice A n c, .slice B m e0, .slice A2 n2 c2] w fun e w' => e = .returned (.bool true) ∧ Chg [] w w' := by
  have hHd := fun w' => GHead_any w'
  have hGr := fun z => Great16_any A n c B m e0 z
  have hmm := hl.sl.len
  have hm9 := hl.sl.le
  replace hmm := Lib.hid hmm
  have H0 := SepC.nil w
  cases hg_ : (decide (n > 600) || decide (m > 120))
  rotate_left
  · rw [hg_] at hGr
    go_enter Try.func4, Try.ntmps4
    go_wp2_with fail
    refine (hHd _).mono ?_; rintro e z1 ⟨rfl, y1⟩
    have H1 := H0.new y1
    clear H0 y1 hHd
    go_wp2_with fail
    refine (Made16_at (hP.self H1.1)).mono ?_; intro e z2 hMP
    unfold MadeP16 at hMP
    obtain ⟨wb, dd, gq, mp, q, hp, hb, t, rfl, HM⟩ := hMP
    have H := H1.merge HM
    clear H1 HM hP
    go_wp2_with fail
    refine (hGr _).mono ?_; rintro e z3 ⟨rfl, rfl⟩
    clear hGr
    go_wp2_with fail
    go_ret
    exact ⟨rfl, H.1⟩
  rw [hg_] at hGr
  clear hg_
  by_cases hmore : n2 > 200
  · have hmz : ((n2 : Nat) : Int) > 200 := by omega
    go_enter Try.func4, Try.ntmps4
    go_wp2_with fail
    refine (hHd _).mono ?_; rintro e z1 ⟨rfl, y1⟩
    have H1 := H0.new y1
    clear H0 y1 hHd
    go_wp2_with fail
    refine (Made16_at (hP.self H1.1)).mono ?_; intro e z2 hMP
    unfold MadeP16 at hMP
    obtain ⟨wb, dd, gq, mp, q, hp, hb, t, rfl, HM⟩ := hMP
    have H := H1.merge HM
    clear H1 HM hP
    go_wp2_with fail
    refine (hGr _).mono ?_; rintro e z3 ⟨rfl, rfl⟩
    clear hGr
    go_wp2_with fail
    go_ret
    exact ⟨rfl, H.1⟩
  have hmz : ¬ ((n2 : Nat) : Int) > 200 := by omega
  clear hmore
  go_enter Try.func4, Try.ntmps4
  go_wp2_with fail
  refine (hHd _).mono ?_; rintro e z1 ⟨rfl, y1⟩
  have H1 := H0.new y1
  clear H0 y1 hHd
  go_wp2_with fail
  refine (Made16_at (hP.self H1.1)).mono ?_; intro e z2 hMP
  unfold MadeP16 at hMP
  obtain ⟨wb, dd, gq, mp, q, hp, hb, t, rfl, HM⟩ := hMP
  have H := H1.merge HM
  clear H1 HM hP
  go_wp2_with fail
  refine (hGr _).mono ?_; rintro e z3 ⟨rfl, rfl⟩
  clear hGr
  go_wp2_with fail
  replace H : SepC w _ (gdT dd gq mp q hp hb t 40 4 8 8 gl16 (opsG (gd0 (madeG P)) (L.take 0)) :: blkT wb 43 (wdC hp gq q t dd) :: []) := H
  go_loopw [9] (fun s_ wr => ∃ k : Nat, k ≤ m ∧ s_ = .int .i64 k ∧ SepC w wr (gdT dd gq mp q hp hb t 40 4 8 8 gl16 (opsG (gd0 (madeG P)) (L.take k)) :: blkT wb 43 (wdC hp gq q t dd) :: [])) (fun s_ _ => m - (intOf s_).toNat)
  case atStart => exact ⟨0, Nat.zero_le _, rfl, H⟩
  case round =>
    clear H
    obtain ⟨k, hk, rfl, H⟩ := hrel
    by_cases hlt : k < m
    · have hltz : (k : Int) < (m : Int) := by omega
      obtain ⟨b, off, o, rfl, ho, c0, c1, c2, c3, c4, c5, c6, c7, c8, c9, c10⟩ := gopE_cells (hl.new H.1).sl hlt
      have hD := H.wDo o (hl.at_ ho)
      rw [← opsG_take ho] at hD
      simp only [Gst.cs] at hD
      clear H
      go_wp2_with fail
      refine hD.mono ?_; rintro e w2 ⟨rfl, H2⟩
      clear hD c0 c1 c2 c3 c4 c5 c6 c7 c8 c9 c10
      go_wp2_with fail
      go_roundw
      case rel => exact ⟨k + 1, by omega, by go_num, H2⟩
      case measure => simp [intOf]; omega
    · have ek : k = m := by omega
      subst ek
      have hltz : ¬ (k : Int) < (k : Int) := by omega
      rw [List.take_of_length_le (Nat.le_of_eq hmm.out)] at H
      obtain ⟨d, hd⟩ : ∃ d, opsG (gd0 (madeG P)) L = d := ⟨_, rfl⟩
      rw [hd] at H
      have G := H.gIn
      clear hd hltz hlt hk hmm hm9 hl
      have hE2 := hE.len
      replace hE2 := Lib.hid hE2
      clear G
      go_wp2_with fail
      replace H : SepC w _ (gdT dd gq mp q hp hb t 40 4 8 8 gl16 (setsGd d (E.take 0)) :: blkT wb 43 (wdC hp gq q t dd) :: []) := H
      go_loopw [10] (fun s10 wr => ∃ k : Nat, k ≤ n2 ∧ s10 = .int .i64 k ∧ SepC w wr (gdT dd gq mp q hp hb t 40 4 8 8 gl16 (setsGd d (E.take k)) :: blkT wb 43 (wdC hp gq q t dd) :: [])) (fun s10 _ => n2 - (intOf s10).toNat)
      case atStart => exact ⟨0, Nat.zero_le _, rfl, H⟩
      case round =>
        clear H
        obtain ⟨k, hk, rfl, H⟩ := hrel
        by_cases hlt : k < n2
        · have hltz : (k : Int) < (n2 : Int) := by omega
          obtain ⟨eb, eoff, pu, rfl, _, hpu, x0, x1, x2⟩ := (hE.self H.1).get hlt
          have hS := fun {z : World} {l_ : List Th} (H' : SepC w z (gdT dd gq mp q hp hb t 40 4 8 8 gl16 (setsGd d (E.take k)) :: l_)) => H'.kSet pu.g pu.i pu.v (hE.wf _ (List.mem_of_getElem? hpu))
          rw [← setsGd_take hpu] at hS
          obtain ⟨w0_, w1_, w2_, w3_, w4_⟩ := wdC_cells (H.pick 1 rfl).blk
          go_upto_region 12 with fail
          replace H := H.new (Chg.refl [] wr).drew
          refine wp_region_still_tail 19 (by kernel_rfl) (by kernel_rfl) ?_
          simp only [List.take_succ_cons, List.take_zero, List.drop_succ_cons, List.drop_zero]
          change wpStill _ _ (World.drew _) _ _ _
          iterate 19 still_step
          refine wpStill_nil ?_
          change wpList _ _ _ _ _ (World.drew _)
          go_wp2_with fail
          refine (hS H).mono ?_; rintro e z5 ⟨rfl, H_⟩
          clear hS H x0 x1 x2 w0_ w1_ w2_ w3_ w4_
          go_wp2_with fail
          go_roundw
          case rel => exact ⟨k + 1, by omega, by go_num, H_⟩
          case measure => simp [intOf]; omega
        · have ek : n2 = k := by omega
          subst ek
          have hltz : ¬ (n2 : Int) < (n2 : Int) := by omega
          rw [List.take_of_length_le (Nat.le_of_eq hE2.out)] at H
          generalize setsGd d E = d at *
          have G := H.gIn
          clear hE hE2
          have hok := G.ok.sr
          have hLn := hok.le256
          obtain ⟨K1, hK10, hK1l, hK1n, hK1s, hK1a⟩ := hok.slotsN
          have hpl := fun j (hj : j < d.s.L.length) => hok.pageAt hj
          have hsl := fun j i (hi : i < 8) q_ (hq : d.s.L[j]? = some q_) => hok.slotAt (j := j) hi hq
          have cL := H.kList
          obtain ⟨LL, hLL⟩ : ∃ LL, d.l = LL := ⟨_, rfl⟩
          rw [hLL] at cL
          obtain ⟨NL, hNL⟩ : ∃ NL, LL.length = NL := ⟨_, rfl⟩
          rw [hNL] at cL
          obtain ⟨w0_, w1_, w2_, w3_, w4_⟩ := wdC_cells (H.pick 1 rfl).blk
          go_wp2_with fail
          refine cL.mono ?_; rintro e z6 ⟨A6, c6, rfl, H_⟩
          clear cL w0_ w1_ w2_ w3_ w4_ H
          have H := (H_.pick 2 rfl).pick 2 rfl
          clear H_
          by_cases h0 : NL = 0
          · have h0b : ((NL : Int) == 0) = true := by simpa using h0
            clear hpl hsl hK1s hK1a hK1n hK1l hK10
            replace hLL := Lib.hid hLL; replace hNL := Lib.hid hNL; replace h0 := Lib.hid h0
            go_wp2_with fail
            go_ret
            exact ⟨rfl, H.1⟩
          · have h0b : ((NL : Int) == 0) = false := by simpa using h0
            have h0z : (0 : Int) < (NL : Int) := by omega
            obtain ⟨lb, loff, g, rfl, _, hg0, hgc⟩ := SlN.get (H.pick 2 rfl).own.slg (i := 0) (by omega)
            simp only [Nat.add_zero] at hgc
            have hgl : g ∈ d.l := by rw [hLL]; exact List.mem_of_getElem? hg0
            have hlb : looseB d g = true := by unfold looseB; simpa using hgl
            obtain ⟨p, hp_, _⟩ := G.ok.ls g hgl
            have hlk := fun {f i : Int} {x : Slt} (hx : slotP d.s.L f i = some x) => look_slot G.ok hlb hp_ hx
            have cO := fun {z : World} {l_ : List Th} (H' : SepC w z (gdT dd gq mp q hp hb t 40 4 8 8 gl16 (d) :: l_)) => H'.kOf g
            rw [hp_] at cO
            simp only [List.length_singleton] at cO
            have cA := fun {z : World} {l_ : List Th} (H' : SepC w z (gdT dd gq mp q hp hb t 40 4 8 8 gl16 (d) :: l_)) => H'.kPages
            have hlm : (d.s.L.map Pg.f).length = d.s.L.length := List.length_map _
            rw [hlm] at cA
            clear hlm
            generalize hF7 : d.s.L.map Pg.f = F7 at *
            obtain ⟨N7, hN7⟩ : ∃ N7, d.s.L.length = N7 := ⟨_, rfl⟩
            rw [hN7] at cA hpl hLn hK1n hK1a
            have cK := fun {z : World} {l_ : List Th} (H' : SepC w z (gdT dd gq mp q hp hb t 40 4 8 8 gl16 (d) :: l_)) => H'.kLook g
            rw [hlb] at cK
            clear hgl hlb hp_ hg0 h0 hok G
            generalize lookG 40 gl16 d g = D2 at *
            replace hLL := Lib.hid hLL; replace hNL := Lib.hid hNL
            replace hN7 := Lib.hid hN7; replace hF7 := Lib.hid hF7; replace hK10 := Lib.hid hK10
            go_upto_region 17 with fail
            clear hgc
            replace H := (H.pick 2 rfl).tail
            obtain ⟨w0_, w1_, w2_, w3_, w4_⟩ := wdC_cells (H.pick 1 rfl).blk
            go_wp2_with fail
            refine (cO H).mono ?_; rintro e z7 ⟨Ao, co, rfl, H_⟩
            clear cO H w0_ w1_ w2_ w3_ w4_
            have H := (H_.pick 2 rfl).pick 2 rfl
            clear H_
            obtain ⟨w0_, w1_, w2_, w3_, w4_⟩ := wdC_cells (H.pick 1 rfl).blk
            go_wp2_with fail
            refine (cA H).mono ?_; rintro e z8 ⟨A7, c7, rfl, H_⟩
            clear cA H w0_ w1_ w2_ w3_ w4_
            have H9 := H_.ownNil sltE 60
            clear H_
            replace H9 : SepC w z8 (gdT dd gq mp q hp hb t 40 4 8 8 gl16 (d) :: blkT wb 43 (wdC hp gq q t dd) :: ownT (numE .i64) 3 (.slice Ao 1 co) [p] :: ownT (numE .i64) 3 (.slice A7 N7 c7) F7 :: ownT sltE 60 (.slice none 0 0) [] :: []) := (((H9.pick 1 rfl).pick 4 rfl).pick 4 rfl).pick 4 rfl
            go_wp2_with fail
            go_loopw [15, 16] (fun s15 s16 wr => ∃ (j : Nat) (Ak : Option Addr) (ck : Nat), j ≤ N7 ∧ s16 = .int .i64 j ∧ s15 = .slice Ak (K1 (8 * j)).length ck ∧ SepC w wr (gdT dd gq mp q hp hb t 40 4 8 8 gl16 (d) :: blkT wb 43 (wdC hp gq q t dd) :: ownT (numE .i64) 3 (.slice Ao 1 co) [p] :: ownT (numE .i64) 3 (.slice A7 N7 c7) F7 :: ownT sltE 60 (.slice Ak (K1 (8 * j)).length ck) (K1 (8 * j)) :: [])) (fun _ s16 _ => N7 - (intOf s16).toNat)
            case atStart => exact ⟨0, none, 0, Nat.zero_le _, rfl, by rw [Nat.mul_zero, hK10.out]; rfl, by rw [Nat.mul_zero, hK10.out]; exact H9⟩
            case round =>
              obtain ⟨j, Ak, ck, hj, rfl, rfl, H⟩ := hrel
              clear H9
              by_cases hjl : j < N7
              · have hjz : (j : Int) < (N7 : Int) := by omega
                obtain ⟨qj, hq0, hqm, hqa, hqk, hqr, hqF⟩ := hpl j hjl
                have hsq := fun i hi => hsl j i hi qj hq0
                obtain ⟨ab, aoff, ax, rfl, _, hax, hac⟩ := SlN.get (H.pick 3 rfl).own.slg hjl
                clear hac hax
                replace hqF := Lib.hid hqF
                have hS1 := fun i x (hi : i < 8) (hx : qj.s[i]? = some x) => hK1s j i qj x hq0 hi hx
                clear hq0 hqk hqa hqm
                go_wp2_with fail
                go_loopw [15, 17] (fun s15 s17 wr => ∃ (i : Nat) (Ak : Option Addr) (ck : Nat), i ≤ 8 ∧ s17 = .int .i64 i ∧ s15 = .slice Ak (K1 (8 * j + i)).length ck ∧ SepC w wr (gdT dd gq mp q hp hb t 40 4 8 8 gl16 (d) :: blkT wb 43 (wdC hp gq q t dd) :: ownT (numE .i64) 3 (.slice Ao 1 co) [p] :: ownT (numE .i64) 3 (.slice (some ⟨ab, aoff, none⟩) N7 c7) F7 :: ownT sltE 60 (.slice Ak (K1 (8 * j + i)).length ck) (K1 (8 * j + i)) :: [])) (fun _ s17 _ => 8 - (intOf s17).toNat)
                case atStart => exact ⟨0, Ak, ck, by omega, rfl, rfl, H⟩
                case round =>
                  obtain ⟨i, Ak, ck, hi, rfl, rfl, H10⟩ := hrel
                  clear H
                  by_cases hi8 : i < 8
                  · have hiz : (i : Int) < 8 := by omega
                    obtain ⟨x, hx0, hx1, hx2, _⟩ := hsq i hi8
                    have e1 := hS1 i x hi8 hx0
                    replace e1 := Lib.hid e1
                    have cS := fun {z : World} {l_ : List Th} (H' : SepC w z (gdT dd gq mp q hp hb t 40 4 8 8 gl16 (d) :: l_)) => H'.kSlot qj.f (i : Int) hqr
                    rw [slotV_at hx1, hx1] at cS
                    obtain ⟨kd, t_, ⟨rw_, ru, rx⟩⟩ := x
                    simp only [Option.isSome_some, Slt.cl] at cS
                    clear hx0 hx1 hx2
                    have H := H10
                    clear H10
                    have hld : ∀ z, Chg [] wr z → (z.cell? ⟨wb, 2, none⟩ = some (.pointer (some ⟨q, 0, none⟩)) ∧ z.cell? ⟨ab, aoff + j, none⟩ = some (.int .i64 qj.f)) := fun z hz => by
                      have H2 := H.new hz
                      obtain ⟨b_, o_, x_, e_, _, h_, t_⟩ := SlN.get (H2.pick 3 rfl).own.slg hjl
                      cases e_; rw [hqF.out] at h_; cases h_
                      exact ⟨(wdC_cells (H2.pick 1 rfl).blk).2.2.1, t_⟩
                    go_upto_region 26 with fail
                    go_cut [18, 19] from 119 to 131 (fun xv iv wx => ∃ sb : Nat, xv = .pointer (some ⟨sb, 0, none⟩) ∧ iv = .bool true ∧ SepC w wx (blkT sb 60 #[.int .i64 kd, .int .i64 t_, .bool rw_, .bool ru, .bool rx] :: gdT dd gq mp q hp hb t 40 4 8 8 gl16 (d) :: blkT wb 43 (wdC hp gq q t dd) :: ownT (numE .i64) 3 (.slice Ao 1 co) [p] :: ownT (numE .i64) 3 (.slice (some ⟨ab, aoff, none⟩) N7 c7) F7 :: ownT sltE 60 (.slice Ak (K1 (8 * j + i)).length ck) (K1 (8 * j + i)) :: []))
                    case first =>
                      have HH := H.new (Chg.refl [] wr).drew
                      refine wp_region_noPanic ?_
                      refine wp_region_held_drew (S := (fun w' => Chg [] wr w')) (by kernel_rfl) ?_ (fun hHeld => ?_)
                      · exact (Chg.refl [] wr).drew
                      (refine take_on 0 (some 120) (v := ?_) rfl rfl (by kernel_rfl) (by kernel_rfl) (by kernel_rfl) (fun _ _ _ h => h) (by rfl) (by assumption) ?_ ?_; rotate_left; · (intro w hSw; (try dsimp only at hSw); go_simp; (try with_reducible rfl)))
                      (try simp only [Act.put, List.setIfInBounds_toArray, List.set_cons_zero, List.set_cons_succ])
                      (refine take_on 1 (some 121) (v := ?_) rfl rfl (by kernel_rfl) (by kernel_rfl) (by kernel_rfl) (fun _ _ _ h => h) (by rfl) (by assumption) ?_ ?_; rotate_left; · (intro w hSw; (try dsimp only at hSw); go_simp; (try with_reducible rfl)))
                      (try simp only [Act.put, List.setIfInBounds_toArray, List.set_cons_zero, List.set_cons_succ])
                      (refine take_on 2 (some 122) (v := ?_) rfl rfl (by kernel_rfl) (by kernel_rfl) (by kernel_rfl) (fun _ _ _ h => h) (by rfl) (by assumption) ?_ ?_; rotate_left; · (intro w hSw; (try dsimp only at hSw); go_simp; (try with_reducible rfl)))
                      (try simp only [Act.put, List.setIfInBounds_toArray, List.set_cons_zero, List.set_cons_succ])
                      (refine take_on 3 (some 123) (v := ?_) rfl rfl (by kernel_rfl) (by kernel_rfl) (by kernel_rfl) (fun _ _ _ h => h) (by rfl) (by assumption) ?_ ?_; rotate_left; · (intro w hSw; (try dsimp only at hSw); obtain ⟨l0_, l1_⟩ := hld _ hSw; go_simp; (try with_reducible rfl)))
                      (try simp only [Act.put, List.setIfInBounds_toArray, List.set_cons_zero, List.set_cons_succ])
                      (refine take_on 4 (some 124) (v := ?_) rfl rfl (by kernel_rfl) (by kernel_rfl) (by kernel_rfl) (fun _ _ _ h => h) (by rfl) (by assumption) ?_ ?_; rotate_left; · (intro w hSw; (try dsimp only at hSw); go_simp; (try with_reducible rfl)))
                      (try simp only [Act.put, List.setIfInBounds_toArray, List.set_cons_zero, List.set_cons_succ])
                      (refine take_on 5 (some 125) (v := ?_) rfl rfl (by kernel_rfl) (by kernel_rfl) (by kernel_rfl) (fun _ _ _ h => h) (by rfl) (by assumption) ?_ ?_; rotate_left; · (intro w hSw; (try dsimp only at hSw); go_simp; (try with_reducible rfl)))
                      (try simp only [Act.put, List.setIfInBounds_toArray, List.set_cons_zero, List.set_cons_succ])
                      (refine take_on 6 (some 126) (v := ?_) rfl rfl (by kernel_rfl) (by kernel_rfl) (by kernel_rfl) (fun _ _ _ h => h) (by rfl) (by assumption) ?_ ?_; rotate_left; · (intro w hSw; (try dsimp only at hSw); go_simp; (try with_reducible rfl)))
                      (try simp only [Act.put, List.setIfInBounds_toArray, List.set_cons_zero, List.set_cons_succ])
                      (refine take_on 7 (some 127) (v := ?_) rfl rfl (by kernel_rfl) (by kernel_rfl) (by kernel_rfl) (fun _ _ _ h => h) (by rfl) (by assumption) ?_ ?_; rotate_left; · (intro w hSw; (try dsimp only at hSw); obtain ⟨l0_, l1_⟩ := hld _ hSw; go_simp; (try with_reducible rfl)))
                      (try simp only [Act.put, List.setIfInBounds_toArray, List.set_cons_zero, List.set_cons_succ])
                      (refine take_on 8 (some 128) (v := ?_) rfl rfl (by kernel_rfl) (by kernel_rfl) (by kernel_rfl) (fun _ _ _ h => h) (by rfl) (by assumption) ?_ ?_; rotate_left; · (intro w hSw; (try dsimp only at hSw); go_simp; (try with_reducible rfl)))
                      (try simp only [Act.put, List.setIfInBounds_toArray, List.set_cons_zero, List.set_cons_succ])
                      refine wpAnyH_ready (rs := [9, 13]) (by kernel_rfl) (by simp) ?_; refine AllReadyH.cons (o := _) rfl (fun K_ hK => ?_) (AllReadyH.cons (o := _) rfl (fun K_ hK => ?_) AllReadyH.nil)
                      · go_simp
                        (go_at_call 25; refine (cS HH).mono ?_; rintro e u1 ⟨rfl, y1⟩)
                        refine hK.out _ _ (by (try dsimp only); exact hHeld.trans y1 (by simp)) (fun hHeld => ?_)
                        clear hK K_
                        (try simp only [Act.put, List.setIfInBounds_toArray, List.set_cons_zero, List.set_cons_succ])
                        replace HH := HH.new y1
                        clear y1
                        have hsb : wr.heap.size ≤ u1.heap.size := hHeld.size
                        (refine take_on 10 (some 119) (v := ?_) rfl rfl (by kernel_rfl) (by kernel_rfl) (by kernel_rfl) (fun _ _ _ h => h) (by rfl) (by assumption) ?_ ?_; rotate_left; · (intro w hSw; go_simp; (try with_reducible rfl)))
                        (try simp only [Act.put, List.setIfInBounds_toArray, List.set_cons_zero, List.set_cons_succ])
                        (refine take_on 11 (some 130) (v := ?_) rfl rfl (by kernel_rfl) (by kernel_rfl) (by kernel_rfl) (fun _ _ _ h => h) (by rfl) (by assumption) ?_ ?_; rotate_left; · (intro w hSw; go_simp; (try with_reducible rfl)))
                        (try simp only [Act.put, List.setIfInBounds_toArray, List.set_cons_zero, List.set_cons_succ])
                        (refine take_on 12 (some 131) (v := ?_) rfl rfl (by kernel_rfl) (by kernel_rfl) (by kernel_rfl) (fun _ _ _ h => h) (by rfl) (by assumption) ?_ ?_; rotate_left; · (intro w hSw; go_simp; (try with_reducible rfl)))
                        (try simp only [Act.put, List.setIfInBounds_toArray, List.set_cons_zero, List.set_cons_succ])
                        refine wpAnyH_ready (rs := [13]) (by kernel_rfl) (by simp) ?_; refine AllReadyH.cons (o := _) rfl (fun K_ hK => ?_) AllReadyH.nil
                        go_simp
                        refine hK.out _ _ (by (try dsimp only); exact hHeld.alloc _) (fun hHeld => ?_)
                        clear hK K_
                        (try simp only [Act.put, List.setIfInBounds_toArray, List.set_cons_zero, List.set_cons_succ])
                        replace HH := HH.alloc #[.int .i64 0, .int .i64 0, .bool false, .bool false, .bool false] 60
                        generalize u1.alloc (.cells #[.int .i64 0, .int .i64 0, .bool false, .bool false, .bool false] 60) = u2 at *
                        generalize u1.heap.size = sb at *
                        have e0_ := HH.blk.cell 0; have f0_ := HH.blk.frozen 0
                        have e1_ := HH.blk.cell 1; have f1_ := HH.blk.frozen 1
                        have e2_ := HH.blk.cell 2; have f2_ := HH.blk.frozen 2
                        have e3_ := HH.blk.cell 3; have f3_ := HH.blk.frozen 3
                        have e4_ := HH.blk.cell 4; have f4_ := HH.blk.frozen 4
                        simp only [List.getElem?_toArray, List.getElem?_cons_zero, List.getElem?_cons_succ] at e0_ e1_ e2_ e3_ e4_
                        have HH3 := (((((HH).cellSet 0 (.int .i64 kd)).cellSet 1 (.int .i64 t_)).cellSet 2 (.bool rw_)).cellSet 3 (.bool ru)).cellSet 4 (.bool rx)
                        simp only [List.setIfInBounds_toArray, List.set_cons_zero, List.set_cons_succ] at HH3
                        have hY : Chg [sb] u2 (((((u2.setCell ⟨sb, 0, none⟩ (.int .i64 kd)).setCell ⟨sb, 1, none⟩ (.int .i64 t_)).setCell ⟨sb, 2, none⟩ (.bool rw_)).setCell ⟨sb, 3, none⟩ (.bool ru)).setCell ⟨sb, 4, none⟩ (.bool rx)) := ((((((Chg.refl [sb] u2).setCell (p := ⟨sb, 0, none⟩) (by simp) _).setCell (p := ⟨sb, 1, none⟩) (by simp) _).setCell (p := ⟨sb, 2, none⟩) (by simp) _).setCell (p := ⟨sb, 3, none⟩) (by simp) _).setCell (p := ⟨sb, 4, none⟩) (by simp) _)
                        refine wpAnyH_ready (rs := [14]) (by kernel_rfl) (by simp) ?_; refine AllReadyH.cons (o := _) rfl (fun K_ hK => ?_) AllReadyH.nil
                        go_simp
                        refine hK.out _ _ (by (try dsimp only); exact hHeld.trans hY (fun i hi hm => by simp at hm; omega)) (fun hHeld => ?_)
                        clear hK K_
                        (try simp only [Act.put, List.setIfInBounds_toArray, List.set_cons_zero, List.set_cons_succ])
                        clear e0_ f0_ e1_ f1_ e2_ f2_ e3_ f3_ e4_ f4_ hY HH hsb
                        generalize (((((u2.setCell ⟨sb, 0, none⟩ (.int .i64 kd)).setCell ⟨sb, 1, none⟩ (.int .i64 t_)).setCell ⟨sb, 2, none⟩ (.bool rw_)).setCell ⟨sb, 3, none⟩ (.bool ru)).setCell ⟨sb, 4, none⟩ (.bool rx)) = u3 at *
                        (refine take_on 15 (some 19) (v := ?_) rfl rfl (by kernel_rfl) (by kernel_rfl) (by kernel_rfl) (fun _ _ _ h => h) (by rfl) (by assumption) ?_ ?_; rotate_left; · (intro w hSw; (try dsimp only at hSw); go_simp; (try with_reducible rfl)))
                        (try simp only [Act.put, List.setIfInBounds_toArray, List.set_cons_zero, List.set_cons_succ])
                        refine wpAnyH_done (by kernel_rfl) ?_ _
                        refine NoPanic.normal ?_
                        clear hHeld H
                        clear hld cS
                        go_wp2_with fail
                        go_meet
                        exact ⟨sb, rfl, rfl, HH3⟩
                      · clear HH
                        go_simp
                        refine hK.out _ _ (by (try dsimp only); exact ((Chg.refl [] wr).alloc _).drew) (fun hHeld => ?_)
                        clear hK K_
                        (try simp only [Act.put, List.setIfInBounds_toArray, List.set_cons_zero, List.set_cons_succ])
                        have HH := (H.alloc #[.int .i64 0, .int .i64 0, .bool false, .bool false, .bool false] 60).new (Chg.refl [] _).drew
                        have hsb : wr.heap.size ≤ wr.heap.size := Nat.le_refl _
                        generalize (wr.alloc (.cells #[.int .i64 0, .int .i64 0, .bool false, .bool false, .bool false] 60)).drew = u1 at *
                        generalize hsb_ : wr.heap.size = sb at hsb HH ⊢
                        clear hsb
                        have hsb : wr.heap.size ≤ sb := by omega
                        refine wpAnyH_ready (rs := [9]) (by kernel_rfl) (by simp) ?_; refine AllReadyH.cons (o := _) rfl (fun K_ hK => ?_) AllReadyH.nil
                        go_simp
                        (go_at_call 25; refine (cS (HH.tail)).mono ?_; rintro e u2 ⟨rfl, y1⟩)
                        refine hK.out _ _ (by (try dsimp only); exact hHeld.trans y1 (by simp)) (fun hHeld => ?_)
                        clear hK K_
                        (try simp only [Act.put, List.setIfInBounds_toArray, List.set_cons_zero, List.set_cons_succ])
                        replace HH := HH.new y1
                        clear y1 hsb_
                        (refine take_on 10 (some 119) (v := ?_) rfl rfl (by kernel_rfl) (by kernel_rfl) (by kernel_rfl) (fun _ _ _ h => h) (by rfl) (by assumption) ?_ ?_; rotate_left; · (intro w hSw; go_simp; (try with_reducible rfl)))
                        (try simp only [Act.put, List.setIfInBounds_toArray, List.set_cons_zero, List.set_cons_succ])
                        (refine take_on 11 (some 130) (v := ?_) rfl rfl (by kernel_rfl) (by kernel_rfl) (by kernel_rfl) (fun _ _ _ h => h) (by rfl) (by assumption) ?_ ?_; rotate_left; · (intro w hSw; go_simp; (try with_reducible rfl)))
                        (try simp only [Act.put, List.setIfInBounds_toArray, List.set_cons_zero, List.set_cons_succ])
                        (refine take_on 12 (some 131) (v := ?_) rfl rfl (by kernel_rfl) (by kernel_rfl) (by kernel_rfl) (fun _ _ _ h => h) (by rfl) (by assumption) ?_ ?_; rotate_left; · (intro w hSw; go_simp; (try with_reducible rfl)))
                        (try simp only [Act.put, List.setIfInBounds_toArray, List.set_cons_zero, List.set_cons_succ])
                        have e0_ := HH.blk.cell 0; have f0_ := HH.blk.frozen 0
                        have e1_ := HH.blk.cell 1; have f1_ := HH.blk.frozen 1
                        have e2_ := HH.blk.cell 2; have f2_ := HH.blk.frozen 2
                        have e3_ := HH.blk.cell 3; have f3_ := HH.blk.frozen 3
                        have e4_ := HH.blk.cell 4; have f4_ := HH.blk.frozen 4
                        simp only [List.getElem?_toArray, List.getElem?_cons_zero, List.getElem?_cons_succ] at e0_ e1_ e2_ e3_ e4_
                        have HH3 := (((((HH).cellSet 0 (.int .i64 kd)).cellSet 1 (.int .i64 t_)).cellSet 2 (.bool rw_)).cellSet 3 (.bool ru)).cellSet 4 (.bool rx)
                        simp only [List.setIfInBounds_toArray, List.set_cons_zero, List.set_cons_succ] at HH3
                        have hY : Chg [sb] u2 (((((u2.setCell ⟨sb, 0, none⟩ (.int .i64 kd)).setCell ⟨sb, 1, none⟩ (.int .i64 t_)).setCell ⟨sb, 2, none⟩ (.bool rw_)).setCell ⟨sb, 3, none⟩ (.bool ru)).setCell ⟨sb, 4, none⟩ (.bool rx)) := ((((((Chg.refl [sb] u2).setCell (p := ⟨sb, 0, none⟩) (by simp) _).setCell (p := ⟨sb, 1, none⟩) (by simp) _).setCell (p := ⟨sb, 2, none⟩) (by simp) _).setCell (p := ⟨sb, 3, none⟩) (by simp) _).setCell (p := ⟨sb, 4, none⟩) (by simp) _)
                        refine wpAnyH_ready (rs := [14]) (by kernel_rfl) (by simp) ?_; refine AllReadyH.cons (o := _) rfl (fun K_ hK => ?_) AllReadyH.nil
                        go_simp
                        refine hK.out _ _ (by (try dsimp only); exact hHeld.trans hY (fun i hi hm => by simp at hm; omega)) (fun hHeld => ?_)
                        clear hK K_
                        (try simp only [Act.put, List.setIfInBounds_toArray, List.set_cons_zero, List.set_cons_succ])
                        clear e0_ f0_ e1_ f1_ e2_ f2_ e3_ f3_ e4_ f4_ hY HH hsb
                        generalize (((((u2.setCell ⟨sb, 0, none⟩ (.int .i64 kd)).setCell ⟨sb, 1, none⟩ (.int .i64 t_)).setCell ⟨sb, 2, none⟩ (.bool rw_)).setCell ⟨sb, 3, none⟩ (.bool ru)).setCell ⟨sb, 4, none⟩ (.bool rx)) = u3 at *
                        (refine take_on 15 (some 19) (v := ?_) rfl rfl (by kernel_rfl) (by kernel_rfl) (by kernel_rfl) (fun _ _ _ h => h) (by rfl) (by assumption) ?_ ?_; rotate_left; · (intro w hSw; (try dsimp only at hSw); go_simp; (try with_reducible rfl)))
                        (try simp only [Act.put, List.setIfInBounds_toArray, List.set_cons_zero, List.set_cons_succ])
                        refine wpAnyH_done (by kernel_rfl) ?_ _
                        refine NoPanic.normal ?_
                        clear hHeld H
                        clear hld cS
                        go_wp2_with fail
                        go_meet
                        exact ⟨sb, rfl, rfl, HH3⟩
                    case rest =>
                      obtain ⟨sb, rfl, rfl, H11⟩ := hcut
                      clear H hld cS
                      have bx := H11.blk
                      have H12 := H11.tail
                      clear H11
                      have e0 := bx.cell 0; have e2 := bx.cell 1; have e3 := bx.cell 2; have e4 := bx.cell 3; have e5 := bx.cell 4
                      simp only [List.getElem?_toArray, List.getElem?_cons_zero, List.getElem?_cons_succ] at e0 e2 e3 e4 e5
                      have hown := (H12.pick 4 rfl).own
                      have k4 := ((Chg.refl [] wc).alloc (.cells #[.int .i64 kd, .int .i64 t_, .bool rw_, .bool ru, .bool rx] 60))
                      have hown4 := hown.new k4
                      have hsrc4 : Src (wc.alloc (.cells #[.int .i64 kd, .int .i64 t_, .bool rw_, .bool ru, .bool rx] 60)) sltE.k (some ⟨wc.heap.size, 0, none⟩) 1 1 (sltE.all [(⟨kd, t_, ⟨rw_, ru, rx⟩⟩ : Slt)]) := (OwnG.lit (E := sltE) (L := [(⟨kd, t_, ⟨rw_, ru, rx⟩⟩ : Slt)]) (Blk.new wc 60 #[.int .i64 kd, .int .i64 t_, .bool rw_, .bool ru, .bool rx]) (by simp)).src
                      go_wp2_with (at_builtin; refine wpList_append_G (E := sltE) rfl _ _ 58 rfl 60 (.agg #[.int .i64 0, .int .i64 0, .bool false, .bool false, .bool false]) 24 Try.underlying58 Slot_info rfl (.slice Ak (K1 (8 * j + i)).length ck) (K1 (8 * j + i)) rfl hown4 (some ⟨wc.heap.size, 0, none⟩) 1 1 [(⟨kd, t_, ⟨rw_, ru, rx⟩⟩ : Slt)] rfl hsrc4 rfl (by have := hK1l (8 * j + i); omega) ?_; intro v5 w5 ho5 hc5 hb5; obtain ⟨A5, c5, rfl, _, _⟩ := ho5.form; rw [← e1.out] at ho5 hb5)
                      have H16 := ((H12.pick 4 rfl).new k4).app ho5 hc5 hb5
                      clear H12 bx e0 e2 e3 e4 e5 hown hown4 hsrc4 ho5 hc5 hb5 k4
                      replace H16 : SepC w w5 (gdT dd gq mp q hp hb t 40 4 8 8 gl16 (d) :: blkT wb 43 (wdC hp gq q t dd) :: ownT (numE .i64) 3 (.slice Ao 1 co) [p] :: ownT (numE .i64) 3 (.slice (some ⟨ab, aoff, none⟩) N7 c7) F7 :: ownT sltE 60 (.slice A5 (K1 (8 * j + i + 1)).length c5) (K1 (8 * j + i + 1)) :: []) := (((H16.pick 4 rfl).pick 4 rfl).pick 4 rfl).pick 4 rfl
                      go_roundw
                      case rel => exact ⟨i + 1, A5, c5, by omega, by go_num, by (rw [← Nat.add_assoc, e1.out, List.length_append]; rfl), H16⟩
                      case measure => simp [intOf]; omega
                  · obtain rfl : i = 8 := by omega
                    have hiz : ¬ (8 : Int) < 8 := by omega
                    go_wp2_with fail
                    go_roundw
                    case rel => exact ⟨j + 1, Ak, ck, by omega, by go_num, rfl, H10⟩
                    case measure => simp [intOf]; omega
              · have ej : N7 = j := by omega
                subst ej
                have hjz : ¬ (N7 : Int) < (N7 : Int) := by omega
                have hKn := hK1n (8 * N7) (Nat.le_refl _)
                obtain ⟨NW, hNW⟩ : ∃ NW, 8 * N7 = NW := ⟨_, rfl⟩
                have hgv : (Value.slice Ak (K1 (8 * N7)).length ck) = .slice Ak NW ck := by rw [hKn, hNW]
                rw [hgv]
                rw [hNW] at H hKn hK1a
                obtain ⟨KW, hKW⟩ : ∃ KW, K1 NW = KW := ⟨_, rfl⟩
                rw [hKW] at H hKn hK1a
                rw [hKn] at H
                clear hgv hKW hKn hK1n hK1s hK1l hK10
                replace hNW := Lib.hid hNW
                obtain ⟨fb, foff, fx, rfl, _, hfx, hfc⟩ := SlN.get (H.pick 2 rfl).own.slg (i := 0) (by omega)
                clear hfc hfx
                obtain ⟨w0_, w1_, w2_, w3_, w4_⟩ := wdC_cells (H.pick 1 rfl).blk
                go_wp2_with fail
                refine (cK H).mono ?_; rintro e z9 ⟨rfl, H_⟩
                clear cK H w0_ w1_ w2_ w3_ w4_
                have H := H_
                clear H_
                go_wp2_with fail
                go_loopw [20] (fun s20 wr => ∃ j : Nat, j ≤ N7 ∧ s20 = .int .i64 j ∧ SepC w wr (gdT dd gq mp q hp hb t 40 4 8 8 gl16 (D2) :: blkT wb 43 (wdC hp gq q t dd) :: ownT (numE .i64) 3 (.slice (some ⟨fb, foff, none⟩) 1 co) [p] :: ownT (numE .i64) 3 (.slice A7 N7 c7) F7 :: ownT sltE 60 (.slice Ak NW ck) KW :: [])) (fun s20 _ => N7 - (intOf s20).toNat)
                case atStart => exact ⟨0, Nat.zero_le _, rfl, H⟩
                case round =>
                  clear H
                  obtain ⟨j, hj, rfl, H⟩ := hrel
                  by_cases hjl : j < N7
                  · have hjz : (j : Int) < (N7 : Int) := by omega
                    obtain ⟨qj, hq0, hqm, hqa, hqk, hqr, hqF⟩ := hpl j hjl
                    have hsq := fun i hi => hsl j i hi qj hq0
                    obtain ⟨ab, aoff, ax, rfl, _, hax, hac⟩ := SlN.get (H.pick 3 rfl).own.slg hjl
                    clear hac hax
                    replace hqF := Lib.hid hqF
                    have hKa := fun i x (hi : i < 8) (hx : qj.s[i]? = some x) => hK1a j i qj x hq0 hi hx
                    clear hq0 hqk hqa hqm
                    go_wp2_with fail
                    go_loopw [21] (fun s21 wr => ∃ i : Nat, i ≤ 8 ∧ s21 = .int .i64 i ∧ SepC w wr (gdT dd gq mp q hp hb t 40 4 8 8 gl16 (D2) :: blkT wb 43 (wdC hp gq q t dd) :: ownT (numE .i64) 3 (.slice (some ⟨fb, foff, none⟩) 1 co) [p] :: ownT (numE .i64) 3 (.slice (some ⟨ab, aoff, none⟩) N7 c7) F7 :: ownT sltE 60 (.slice Ak NW ck) KW :: [])) (fun s21 _ => 8 - (intOf s21).toNat)
                    case atStart => exact ⟨0, by omega, rfl, H⟩
                    case round =>
                      clear H
                      obtain ⟨i, hi, rfl, H⟩ := hrel
                      by_cases hi8 : i < 8
                      · have hiz : (i : Int) < 8 := by omega
                        obtain ⟨x, hx0, hx1, hx2, _⟩ := hsq i hi8
                        have hka := hKa i x hi8 hx0
                        have hXl : 8 * j + i < NW := by have := hNW.out; omega
                        have hXz : 8 * (j : Int) + (i : Int) < (NW : Int) := by omega
                        have hfs := hlk hx1
                        have cS := fun {z : World} {l_ : List Th} (H' : SepC w z (gdT dd gq mp q hp hb t 40 4 8 8 gl16 (D2) :: l_)) => H'.kSlot qj.f (i : Int) hqr
                        rw [slotV_at hfs, hfs] at cS
                        simp only [Option.isSome_some] at cS
                        clear hfs hx0 hx1 hx2
                        have cG := fun {z : World} {l_ : List Th} (H' : SepC w z (gdT dd gq mp q hp hb t 40 4 8 8 gl16 (D2) :: l_)) => H'.kGet g (i : Int)
                        obtain ⟨V, hV, hV2⟩ : ∃ V : Nat, getG 40 D2.s.W gl16 g (i : Int) = (V : Int) ∧ V < 18446744073709551616 := ⟨(getG 40 D2.s.W gl16 g (i : Int)).toNat, by have := H.gIn.wd.getG_ (n := 40) (L := gl16) g (i : Int); omega, by have := H.gIn.wd.getG_ (n := 40) (L := gl16) g (i : Int); omega⟩
                        rw [hV] at cG
                        have hent : entG 40 gl16 D2.s.W g (i : Int) = getE V := by unfold entG; rw [hV]; rfl
                        rw [hent] at cS
                        clear hent hV
                        have cP := fun z => RGet_any V z hV2
                        have cQ := fun z => RAgr_any (lkY g x) (getE V) z
                        generalize agreeB (lkY g x) (getE V) = ag at *
                        generalize getE V = en at *
                        obtain ⟨ep, ew, eu, ea, ed, es, ex, eb, ef⟩ := en
                        generalize hasG 40 gl16 g (i : Int) = hg_ at *
                        obtain ⟨y, hy⟩ : ∃ y : Slt, y = (if ((qj.f == p) && ((x.kind == 2) && !ag)) = true then Slt.no else lkY g x) := ⟨_, rfl⟩
                        rw [← hy] at cS
                        obtain ⟨yk, yt, ⟨yw, yu, yx⟩⟩ := y
                        obtain ⟨kd, t_, ⟨rw_, ru, rx⟩⟩ := x
                        simp only [lkY] at hy
                        simp only [Slt.cl, lkY, Ent.cs] at cS cQ cP
                        replace hy := Lib.hid hy; replace hka := Lib.hid hka
                        have hld : ∀ z, Chg [] wr z → (z.cell? ⟨wb, 2, none⟩ = some (.pointer (some ⟨q, 0, none⟩)) ∧ z.cell? ⟨ab, aoff + j, none⟩ = some (.int .i64 qj.f)) := fun z hz => by
                          have H2 := H.new hz
                          obtain ⟨b_, o_, x_, e_, _, h_, t_⟩ := SlN.get (H2.pick 3 rfl).own.slg hjl
                          cases e_; rw [hqF.out] at h_; cases h_
                          exact ⟨(wdC_cells (H2.pick 1 rfl).blk).2.2.1, t_⟩
                        go_upto_region 36 with fail
                        go_cut [22, 23] from 158 to 170 (fun xv iv wx => ∃ sb : Nat, xv = .pointer (some ⟨sb, 0, none⟩) ∧ iv = .bool true ∧ SepC w wx (blkT sb 60 #[.int .i64 yk, .int .i64 yt, .bool yw, .bool yu, .bool yx] :: gdT dd gq mp q hp hb t 40 4 8 8 gl16 (D2) :: blkT wb 43 (wdC hp gq q t dd) :: ownT (numE .i64) 3 (.slice (some ⟨fb, foff, none⟩) 1 co) [p] :: ownT (numE .i64) 3 (.slice (some ⟨ab, aoff, none⟩) N7 c7) F7 :: ownT sltE 60 (.slice Ak NW ck) KW :: []))
                        case first =>
                          have HH := H.new (Chg.refl [] wr).drew
                          refine wp_region_noPanic ?_
                          refine wp_region_held_drew (S := (fun w' => Chg [] wr w')) (by kernel_rfl) ?_ (fun hHeld => ?_)
                          · exact (Chg.refl [] wr).drew
                          (refine take_on 0 (some 159) (v := ?_) rfl rfl (by kernel_rfl) (by kernel_rfl) (by kernel_rfl) (fun _ _ _ h => h) (by rfl) (by assumption) ?_ ?_; rotate_left; · (intro w hSw; (try dsimp only at hSw); go_simp; (try with_reducible rfl)))
                          (try simp only [Act.put, List.setIfInBounds_toArray, List.set_cons_zero, List.set_cons_succ])
                          (refine take_on 1 (some 160) (v := ?_) rfl rfl (by kernel_rfl) (by kernel_rfl) (by kernel_rfl) (fun _ _ _ h => h) (by rfl) (by assumption) ?_ ?_; rotate_left; · (intro w hSw; (try dsimp only at hSw); go_simp; (try with_reducible rfl)))
                          (try simp only [Act.put, List.setIfInBounds_toArray, List.set_cons_zero, List.set_cons_succ])
                          (refine take_on 2 (some 161) (v := ?_) rfl rfl (by kernel_rfl) (by kernel_rfl) (by kernel_rfl) (fun _ _ _ h => h) (by rfl) (by assumption) ?_ ?_; rotate_left; · (intro w hSw; (try dsimp only at hSw); go_simp; (try with_reducible rfl)))
                          (try simp only [Act.put, List.setIfInBounds_toArray, List.set_cons_zero, List.set_cons_succ])
                          (refine take_on 3 (some 162) (v := ?_) rfl rfl (by kernel_rfl) (by kernel_rfl) (by kernel_rfl) (fun _ _ _ h => h) (by rfl) (by assumption) ?_ ?_; rotate_left; · (intro w hSw; (try dsimp only at hSw); obtain ⟨l0_, l1_⟩ := hld _ hSw; go_simp; (try with_reducible rfl)))
                          (try simp only [Act.put, List.setIfInBounds_toArray, List.set_cons_zero, List.set_cons_succ])
                          (refine take_on 4 (some 163) (v := ?_) rfl rfl (by kernel_rfl) (by kernel_rfl) (by kernel_rfl) (fun _ _ _ h => h) (by rfl) (by assumption) ?_ ?_; rotate_left; · (intro w hSw; (try dsimp only at hSw); go_simp; (try with_reducible rfl)))
                          (try simp only [Act.put, List.setIfInBounds_toArray, List.set_cons_zero, List.set_cons_succ])
                          (refine take_on 5 (some 164) (v := ?_) rfl rfl (by kernel_rfl) (by kernel_rfl) (by kernel_rfl) (fun _ _ _ h => h) (by rfl) (by assumption) ?_ ?_; rotate_left; · (intro w hSw; (try dsimp only at hSw); go_simp; (try with_reducible rfl)))
                          (try simp only [Act.put, List.setIfInBounds_toArray, List.set_cons_zero, List.set_cons_succ])
                          (refine take_on 6 (some 165) (v := ?_) rfl rfl (by kernel_rfl) (by kernel_rfl) (by kernel_rfl) (fun _ _ _ h => h) (by rfl) (by assumption) ?_ ?_; rotate_left; · (intro w hSw; (try dsimp only at hSw); go_simp; (try with_reducible rfl)))
                          (try simp only [Act.put, List.setIfInBounds_toArray, List.set_cons_zero, List.set_cons_succ])
                          (refine take_on 7 (some 166) (v := ?_) rfl rfl (by kernel_rfl) (by kernel_rfl) (by kernel_rfl) (fun _ _ _ h => h) (by rfl) (by assumption) ?_ ?_; rotate_left; · (intro w hSw; (try dsimp only at hSw); obtain ⟨l0_, l1_⟩ := hld _ hSw; go_simp; (try with_reducible rfl)))
                          (try simp only [Act.put, List.setIfInBounds_toArray, List.set_cons_zero, List.set_cons_succ])
                          (refine take_on 8 (some 167) (v := ?_) rfl rfl (by kernel_rfl) (by kernel_rfl) (by kernel_rfl) (fun _ _ _ h => h) (by rfl) (by assumption) ?_ ?_; rotate_left; · (intro w hSw; (try dsimp only at hSw); go_simp; (try with_reducible rfl)))
                          (try simp only [Act.put, List.setIfInBounds_toArray, List.set_cons_zero, List.set_cons_succ])
                          refine wpAnyH_ready (rs := [9, 13]) (by kernel_rfl) (by simp) ?_; refine AllReadyH.cons (o := _) rfl (fun K_ hK => ?_) (AllReadyH.cons (o := _) rfl (fun K_ hK => ?_) AllReadyH.nil)
                          · go_simp
                            (go_at_call 25; refine (cS HH).mono ?_; rintro e u1 ⟨rfl, y1⟩)
                            refine hK.out _ _ (by (try dsimp only); exact hHeld.trans y1 (by simp)) (fun hHeld => ?_)
                            clear hK K_
                            (try simp only [Act.put, List.setIfInBounds_toArray, List.set_cons_zero, List.set_cons_succ])
                            replace HH := HH.new y1
                            clear y1
                            have hsb : wr.heap.size ≤ u1.heap.size := hHeld.size
                            (refine take_on 10 (some 158) (v := ?_) rfl rfl (by kernel_rfl) (by kernel_rfl) (by kernel_rfl) (fun _ _ _ h => h) (by rfl) (by assumption) ?_ ?_; rotate_left; · (intro w hSw; go_simp; (try with_reducible rfl)))
                            (try simp only [Act.put, List.setIfInBounds_toArray, List.set_cons_zero, List.set_cons_succ])
                            (refine take_on 11 (some 169) (v := ?_) rfl rfl (by kernel_rfl) (by kernel_rfl) (by kernel_rfl) (fun _ _ _ h => h) (by rfl) (by assumption) ?_ ?_; rotate_left; · (intro w hSw; go_simp; (try with_reducible rfl)))
                            (try simp only [Act.put, List.setIfInBounds_toArray, List.set_cons_zero, List.set_cons_succ])
                            (refine take_on 12 (some 170) (v := ?_) rfl rfl (by kernel_rfl) (by kernel_rfl) (by kernel_rfl) (fun _ _ _ h => h) (by rfl) (by assumption) ?_ ?_; rotate_left; · (intro w hSw; go_simp; (try with_reducible rfl)))
                            (try simp only [Act.put, List.setIfInBounds_toArray, List.set_cons_zero, List.set_cons_succ])
                            refine wpAnyH_ready (rs := [13]) (by kernel_rfl) (by simp) ?_; refine AllReadyH.cons (o := _) rfl (fun K_ hK => ?_) AllReadyH.nil
                            go_simp
                            refine hK.out _ _ (by (try dsimp only); exact hHeld.alloc _) (fun hHeld => ?_)
                            clear hK K_
                            (try simp only [Act.put, List.setIfInBounds_toArray, List.set_cons_zero, List.set_cons_succ])
                            replace HH := HH.alloc #[.int .i64 0, .int .i64 0, .bool false, .bool false, .bool false] 60
                            generalize u1.alloc (.cells #[.int .i64 0, .int .i64 0, .bool false, .bool false, .bool false] 60) = u2 at *
                            generalize u1.heap.size = sb at *
                            have e0_ := HH.blk.cell 0; have f0_ := HH.blk.frozen 0
                            have e1_ := HH.blk.cell 1; have f1_ := HH.blk.frozen 1
                            have e2_ := HH.blk.cell 2; have f2_ := HH.blk.frozen 2
                            have e3_ := HH.blk.cell 3; have f3_ := HH.blk.frozen 3
                            have e4_ := HH.blk.cell 4; have f4_ := HH.blk.frozen 4
                            simp only [List.getElem?_toArray, List.getElem?_cons_zero, List.getElem?_cons_succ] at e0_ e1_ e2_ e3_ e4_
                            have HH3 := (((((HH).cellSet 0 (.int .i64 yk)).cellSet 1 (.int .i64 yt)).cellSet 2 (.bool yw)).cellSet 3 (.bool yu)).cellSet 4 (.bool yx)
                            simp only [List.setIfInBounds_toArray, List.set_cons_zero, List.set_cons_succ] at HH3
                            have hY : Chg [sb] u2 (((((u2.setCell ⟨sb, 0, none⟩ (.int .i64 yk)).setCell ⟨sb, 1, none⟩ (.int .i64 yt)).setCell ⟨sb, 2, none⟩ (.bool yw)).setCell ⟨sb, 3, none⟩ (.bool yu)).setCell ⟨sb, 4, none⟩ (.bool yx)) := ((((((Chg.refl [sb] u2).setCell (p := ⟨sb, 0, none⟩) (by simp) _).setCell (p := ⟨sb, 1, none⟩) (by simp) _).setCell (p := ⟨sb, 2, none⟩) (by simp) _).setCell (p := ⟨sb, 3, none⟩) (by simp) _).setCell (p := ⟨sb, 4, none⟩) (by simp) _)
                            refine wpAnyH_ready (rs := [14]) (by kernel_rfl) (by simp) ?_; refine AllReadyH.cons (o := _) rfl (fun K_ hK => ?_) AllReadyH.nil
                            go_simp
                            refine hK.out _ _ (by (try dsimp only); exact hHeld.trans hY (fun i hi hm => by simp at hm; omega)) (fun hHeld => ?_)
                            clear hK K_
                            (try simp only [Act.put, List.setIfInBounds_toArray, List.set_cons_zero, List.set_cons_succ])
                            clear e0_ f0_ e1_ f1_ e2_ f2_ e3_ f3_ e4_ f4_ hY HH hsb
                            generalize (((((u2.setCell ⟨sb, 0, none⟩ (.int .i64 yk)).setCell ⟨sb, 1, none⟩ (.int .i64 yt)).setCell ⟨sb, 2, none⟩ (.bool yw)).setCell ⟨sb, 3, none⟩ (.bool yu)).setCell ⟨sb, 4, none⟩ (.bool yx)) = u3 at *
                            (refine take_on 15 (some 23) (v := ?_) rfl rfl (by kernel_rfl) (by kernel_rfl) (by kernel_rfl) (fun _ _ _ h => h) (by rfl) (by assumption) ?_ ?_; rotate_left; · (intro w hSw; (try dsimp only at hSw); go_simp; (try with_reducible rfl)))
                            (try simp only [Act.put, List.setIfInBounds_toArray, List.set_cons_zero, List.set_cons_succ])
                            refine wpAnyH_done (by kernel_rfl) ?_ _
                            refine NoPanic.normal ?_
                            clear hHeld H
                            clear hld cS
                            go_wp2_with fail
                            go_meet
                            exact ⟨sb, rfl, rfl, HH3⟩
                          · clear HH
                            go_simp
                            refine hK.out _ _ (by (try dsimp only); exact ((Chg.refl [] wr).alloc _).drew) (fun hHeld => ?_)
                            clear hK K_
                            (try simp only [Act.put, List.setIfInBounds_toArray, List.set_cons_zero, List.set_cons_succ])
                            have HH := (H.alloc #[.int .i64 0, .int .i64 0, .bool false, .bool false, .bool false] 60).new (Chg.refl [] _).drew
                            have hsb : wr.heap.size ≤ wr.heap.size := Nat.le_refl _
                            generalize (wr.alloc (.cells #[.int .i64 0, .int .i64 0, .bool false, .bool false, .bool false] 60)).drew = u1 at *
                            generalize hsb_ : wr.heap.size = sb at hsb HH ⊢
                            clear hsb
                            have hsb : wr.heap.size ≤ sb := by omega
                            refine wpAnyH_ready (rs := [9]) (by kernel_rfl) (by simp) ?_; refine AllReadyH.cons (o := _) rfl (fun K_ hK => ?_) AllReadyH.nil
                            go_simp
                            (go_at_call 25; refine (cS (HH.tail)).mono ?_; rintro e u2 ⟨rfl, y1⟩)
                            refine hK.out _ _ (by (try dsimp only); exact hHeld.trans y1 (by simp)) (fun hHeld => ?_)
                            clear hK K_
                            (try simp only [Act.put, List.setIfInBounds_toArray, List.set_cons_zero, List.set_cons_succ])
                            replace HH := HH.new y1
                            clear y1 hsb_
                            (refine take_on 10 (some 158) (v := ?_) rfl rfl (by kernel_rfl) (by kernel_rfl) (by kernel_rfl) (fun _ _ _ h => h) (by rfl) (by assumption) ?_ ?_; rotate_left; · (intro w hSw; go_simp; (try with_reducible rfl)))
                            (try simp only [Act.put, List.setIfInBounds_toArray, List.set_cons_zero, List.set_cons_succ])
                            (refine take_on 11 (some 169) (v := ?_) rfl rfl (by kernel_rfl) (by kernel_rfl) (by kernel_rfl) (fun _ _ _ h => h) (by rfl) (by assumption) ?_ ?_; rotate_left; · (intro w hSw; go_simp; (try with_reducible rfl)))
                            (try simp only [Act.put, List.setIfInBounds_toArray, List.set_cons_zero, List.set_cons_succ])
                            (refine take_on 12 (some 170) (v := ?_) rfl rfl (by kernel_rfl) (by kernel_rfl) (by kernel_rfl) (fun _ _ _ h => h) (by rfl) (by assumption) ?_ ?_; rotate_left; · (intro w hSw; go_simp; (try with_reducible rfl)))
                            (try simp only [Act.put, List.setIfInBounds_toArray, List.set_cons_zero, List.set_cons_succ])
                            have e0_ := HH.blk.cell 0; have f0_ := HH.blk.frozen 0
                            have e1_ := HH.blk.cell 1; have f1_ := HH.blk.frozen 1
                            have e2_ := HH.blk.cell 2; have f2_ := HH.blk.frozen 2
                            have e3_ := HH.blk.cell 3; have f3_ := HH.blk.frozen 3
                            have e4_ := HH.blk.cell 4; have f4_ := HH.blk.frozen 4
                            simp only [List.getElem?_toArray, List.getElem?_cons_zero, List.getElem?_cons_succ] at e0_ e1_ e2_ e3_ e4_
                            have HH3 := (((((HH).cellSet 0 (.int .i64 yk)).cellSet 1 (.int .i64 yt)).cellSet 2 (.bool yw)).cellSet 3 (.bool yu)).cellSet 4 (.bool yx)
                            simp only [List.setIfInBounds_toArray, List.set_cons_zero, List.set_cons_succ] at HH3
                            have hY : Chg [sb] u2 (((((u2.setCell ⟨sb, 0, none⟩ (.int .i64 yk)).setCell ⟨sb, 1, none⟩ (.int .i64 yt)).setCell ⟨sb, 2, none⟩ (.bool yw)).setCell ⟨sb, 3, none⟩ (.bool yu)).setCell ⟨sb, 4, none⟩ (.bool yx)) := ((((((Chg.refl [sb] u2).setCell (p := ⟨sb, 0, none⟩) (by simp) _).setCell (p := ⟨sb, 1, none⟩) (by simp) _).setCell (p := ⟨sb, 2, none⟩) (by simp) _).setCell (p := ⟨sb, 3, none⟩) (by simp) _).setCell (p := ⟨sb, 4, none⟩) (by simp) _)
                            refine wpAnyH_ready (rs := [14]) (by kernel_rfl) (by simp) ?_; refine AllReadyH.cons (o := _) rfl (fun K_ hK => ?_) AllReadyH.nil
                            go_simp
                            refine hK.out _ _ (by (try dsimp only); exact hHeld.trans hY (fun i hi hm => by simp at hm; omega)) (fun hHeld => ?_)
                            clear hK K_
                            (try simp only [Act.put, List.setIfInBounds_toArray, List.set_cons_zero, List.set_cons_succ])
                            clear e0_ f0_ e1_ f1_ e2_ f2_ e3_ f3_ e4_ f4_ hY HH hsb
                            generalize (((((u2.setCell ⟨sb, 0, none⟩ (.int .i64 yk)).setCell ⟨sb, 1, none⟩ (.int .i64 yt)).setCell ⟨sb, 2, none⟩ (.bool yw)).setCell ⟨sb, 3, none⟩ (.bool yu)).setCell ⟨sb, 4, none⟩ (.bool yx)) = u3 at *
                            (refine take_on 15 (some 23) (v := ?_) rfl rfl (by kernel_rfl) (by kernel_rfl) (by kernel_rfl) (fun _ _ _ h => h) (by rfl) (by assumption) ?_ ?_; rotate_left; · (intro w hSw; (try dsimp only at hSw); go_simp; (try with_reducible rfl)))
                            (try simp only [Act.put, List.setIfInBounds_toArray, List.set_cons_zero, List.set_cons_succ])
                            refine wpAnyH_done (by kernel_rfl) ?_ _
                            refine NoPanic.normal ?_
                            clear hHeld H
                            clear hld cS
                            go_wp2_with fail
                            go_meet
                            exact ⟨sb, rfl, rfl, HH3⟩
                        case rest =>
                          obtain ⟨sb, rfl, rfl, H12⟩ := hcut
                          clear H hld cS
                          obtain ⟨b8, o8, x8, rfl, _, hx8_, hc8⟩ := SlG.get (H12.pick 5 rfl).own.slg hXl
                          rw [hka.out] at hx8_; cases hx8_
                          obtain ⟨d0, d1, d2, d3, d4⟩ := sltAt5 hc8
                          simp only [show sltE.k = 5 from rfl] at d0 d1 d2 d3 d4
                          clear hc8
                          go_upto_region 38 with fail
                          have H13 := H12.alloc #[.int .i64 kd, .int .i64 t_, .bool rw_, .bool ru, .bool rx] 60
                          clear H12 d0 d1 d2 d3 d4
                          generalize wc.alloc (.cells #[.int .i64 kd, .int .i64 t_, .bool rw_, .bool ru, .bool rx] 60) = z14 at *
                          generalize wc.heap.size = ob at *
                          have e0 := H13.blk.cell 0; have e1 := H13.blk.cell 1; have e2 := H13.blk.cell 2; have e3 := H13.blk.cell 3; have e4 := H13.blk.cell 4
                          simp only [List.getElem?_toArray, List.getElem?_cons_zero, List.getElem?_cons_succ] at e0 e1 e2 e3 e4
                          go_upto_region 39 with fail
                          have H14 := H13.alloc #[.int .i64 kd, .int .i64 t_, .bool rw_, .bool ru, .bool rx] 60
                          clear H13 e0 e1 e2 e3 e4
                          generalize z14.alloc (.cells #[.int .i64 kd, .int .i64 t_, .bool rw_, .bool ru, .bool rx] 60) = z15 at *
                          generalize z14.heap.size = nb at *
                          obtain ⟨k2, hk2⟩ : ∃ k2, (kd == 2) = k2 := ⟨_, rfl⟩
                          obtain ⟨tg, htg⟩ : ∃ tg, (t_ == g) = tg := ⟨_, rfl⟩
                          obtain ⟨fe, hfe⟩ : ∃ fe, (qj.f == p) = fe := ⟨_, rfl⟩
                          have hy_ := hy.out
                          rw [hk2, htg, hfe] at hy_
                          clear hy
                          rw [hk2, htg] at cQ
                          obtain ⟨nw, hnw⟩ : ∃ nw, (!(k2 && tg) && rw_) = nw := ⟨_, rfl⟩
                          rw [hnw] at hy_ cQ
                          replace hy_ := Lib.hid hy_
                          go_cut [187] from 179 to 187 (fun cv wx => cv = .bool (k2 && tg) ∧ wx = z15)
                          case first =>
                            have f0 := (H14.pick 1 rfl).blk.cell 0; have f1 := (H14.pick 1 rfl).blk.cell 1; have f2 := (H14.pick 1 rfl).blk.cell 2; have f3 := (H14.pick 1 rfl).blk.cell 3; have f4 := (H14.pick 1 rfl).blk.cell 4
                            simp only [List.getElem?_toArray, List.getElem?_cons_zero, List.getElem?_cons_succ] at f0 f1 f2 f3 f4
                            cases k2 <;> (go_wp2_with fail; go_meet; exact ⟨rfl, rfl⟩)
                          case rest =>
                            obtain ⟨rfl, rfl⟩ := hcut
                            obtain ⟨kg, hkg⟩ : ∃ kg, (k2 && tg) = kg := ⟨_, rfl⟩
                            rw [hkg]
                            rw [hkg] at hnw
                            replace hkg := Lib.hid hkg
                            replace hnw := Lib.hid hnw
                            go_upto_if 187 with fail
                            go_cut [22] from 188 to 189 (fun cv wx => cv = .pointer (some ⟨sb, 0, none⟩) ∧ SepC w wx (blkT nb 60 #[.int .i64 kd, .int .i64 t_, .bool nw, .bool ru, .bool rx] :: blkT ob 60 #[.int .i64 kd, .int .i64 t_, .bool rw_, .bool ru, .bool rx] :: blkT sb 60 #[.int .i64 yk, .int .i64 yt, .bool yw, .bool yu, .bool yx] :: gdT dd gq mp q hp hb t 40 4 8 8 gl16 (D2) :: blkT wb 43 (wdC hp gq q t dd) :: ownT (numE .i64) 3 (.slice (some ⟨fb, foff, none⟩) 1 co) [p] :: ownT (numE .i64) 3 (.slice (some ⟨ab, aoff, none⟩) N7 c7) F7 :: ownT sltE 60 (.slice (some ⟨b8, o8, none⟩) NW ck) KW :: []))
                            case first =>
                              have z2_ := H14.blk.frozen 2
                              have e0 := H14.blk.cell 0; have e1 := H14.blk.cell 1; have e2 := H14.blk.cell 2; have e3 := H14.blk.cell 3; have e4 := H14.blk.cell 4
                              simp only [List.getElem?_toArray, List.getElem?_cons_zero, List.getElem?_cons_succ] at e0 e1 e2 e3 e4
                              cases kg
                              · have enw : nw = rw_ := by rw [← hnw.out]; simp
                                subst enw
                                go_wp2_with fail
                                go_meet
                                exact ⟨rfl, H14⟩
                              · have enw : nw = false := by rw [← hnw.out]; simp
                                subst enw
                                have H15 := H14.cellSet 2 (.bool false)
                                simp only [List.setIfInBounds_toArray, List.set_cons_zero, List.set_cons_succ] at H15
                                go_wp2_with fail
                                go_meet
                                exact ⟨rfl, H15⟩
                            case rest =>
                              obtain ⟨rfl, H⟩ := hcut
                              clear H14
                              obtain ⟨w0_, w1_, w2_, w3_, w4_⟩ := wdC_cells (H.pick 4 rfl).blk
                              have HG := ((H.pick 3 rfl))
                              go_wp2_with fail
                              refine (cG HG).mono ?_; rintro e z16 ⟨rfl, hz_⟩
                              subst hz_
                              clear cG HG w0_ w1_ w2_ w3_ w4_
                              go_upto_region 42 with fail
                              go_cut [219] from 200 to 219 (fun cv wx => cv = .bool (fe && (k2 && !ag)) ∧ SepC w wx (blkT nb 60 #[.int .i64 kd, .int .i64 t_, .bool nw, .bool ru, .bool rx] :: blkT ob 60 #[.int .i64 kd, .int .i64 t_, .bool rw_, .bool ru, .bool rx] :: blkT sb 60 #[.int .i64 yk, .int .i64 yt, .bool yw, .bool yu, .bool yx] :: gdT dd gq mp q hp hb t 40 4 8 8 gl16 (D2) :: blkT wb 43 (wdC hp gq q t dd) :: ownT (numE .i64) 3 (.slice (some ⟨fb, foff, none⟩) 1 co) [p] :: ownT (numE .i64) 3 (.slice (some ⟨ab, aoff, none⟩) N7 c7) F7 :: ownT sltE 60 (.slice (some ⟨b8, o8, none⟩) NW ck) KW :: []))
                              case first =>
                                have hld : ∀ z, Chg [] wc z → (Blk z nb 60 #[.int .i64 kd, .int .i64 t_, .bool nw, .bool ru, .bool rx] ∧ Blk z ob 60 #[.int .i64 kd, .int .i64 t_, .bool rw_, .bool ru, .bool rx] ∧ z.cell? ⟨ab, aoff + j, none⟩ = some (.int .i64 qj.f) ∧ z.cell? ⟨fb, foff, none⟩ = some (.int .i64 p)) := fun z hz => by
                                  have H2 := H.new hz
                                  obtain ⟨b_, o_, x_, e_, _, h_, t_⟩ := SlN.get (H2.pick 6 rfl).own.slg hjl
                                  cases e_; rw [hqF.out] at h_; cases h_
                                  obtain ⟨b2_, o2_, x2_, e2_, _, h2_, t2_⟩ := SlN.get (H2.pick 5 rfl).own.slg (i := 0) (by omega)
                                  cases e2_; cases h2_; simp only [Nat.add_zero] at t2_
                                  exact ⟨H2.blk, (H2.pick 1 rfl).blk, t_, t2_⟩
                                cases fe
                                · refine wp_region_noPanic ?_
                                  refine wp_region_held_drew (S := (fun w' => Chg [] wc w')) (by kernel_rfl) ?_ (fun hHeld => ?_)
                                  · exact (Chg.refl [] wc).drew
                                  (refine take_on 0 (some 200) (v := ?_) rfl rfl (by kernel_rfl) (by kernel_rfl) (by kernel_rfl) (fun _ _ _ h => h) (by rfl) (by assumption) ?_ ?_; rotate_left; · (intro w hSw; go_simp; (try with_reducible rfl)))
                                  (try simp only [Act.put, List.setIfInBounds_toArray, List.set_cons_zero, List.set_cons_succ])
                                  (refine take_on 1 (some 201) (v := ?_) rfl rfl (by kernel_rfl) (by kernel_rfl) (by kernel_rfl) (fun _ _ _ h => h) (by rfl) (by assumption) ?_ ?_; rotate_left; · (intro w hSw; go_simp; (try with_reducible rfl)))
                                  (try simp only [Act.put, List.setIfInBounds_toArray, List.set_cons_zero, List.set_cons_succ])
                                  (refine take_on 2 (some 202) (v := ?_) rfl rfl (by kernel_rfl) (by kernel_rfl) (by kernel_rfl) (fun _ _ _ h => h) (by rfl) (by assumption) ?_ ?_; rotate_left; · (intro w hSw; go_simp; (try with_reducible rfl)))
                                  (try simp only [Act.put, List.setIfInBounds_toArray, List.set_cons_zero, List.set_cons_succ])
                                  (refine take_on 3 (some 203) (v := ?_) rfl rfl (by kernel_rfl) (by kernel_rfl) (by kernel_rfl) (fun _ _ _ h => h) (by rfl) (by assumption) ?_ ?_; rotate_left; · (intro w hSw; (try dsimp only at hSw); obtain ⟨n_, o_, a_, p_⟩ := hld _ hSw; have n0_ := n_.cell 0; have n1_ := n_.cell 1; have n2_ := n_.cell 2; have n3_ := n_.cell 3; have n4_ := n_.cell 4; have o0_ := o_.cell 0; simp only [List.getElem?_toArray, List.getElem?_cons_zero, List.getElem?_cons_succ] at n0_ n1_ n2_ n3_ n4_ o0_; go_simp; (try with_reducible rfl)))
                                  (try simp only [Act.put, List.setIfInBounds_toArray, List.set_cons_zero, List.set_cons_succ])
                                  (refine take_on 4 (some 204) (v := ?_) rfl rfl (by kernel_rfl) (by kernel_rfl) (by kernel_rfl) (fun _ _ _ h => h) (by rfl) (by assumption) ?_ ?_; rotate_left; · (intro w hSw; go_simp; (try with_reducible rfl)))
                                  (try simp only [Act.put, List.setIfInBounds_toArray, List.set_cons_zero, List.set_cons_succ])
                                  (refine take_on 5 (some 205) (v := ?_) rfl rfl (by kernel_rfl) (by kernel_rfl) (by kernel_rfl) (fun _ _ _ h => h) (by rfl) (by assumption) ?_ ?_; rotate_left; · (intro w hSw; go_simp; (try with_reducible rfl)))
                                  (try simp only [Act.put, List.setIfInBounds_toArray, List.set_cons_zero, List.set_cons_succ])
                                  (refine take_on 6 (some 206) (v := ?_) rfl rfl (by kernel_rfl) (by kernel_rfl) (by kernel_rfl) (fun _ _ _ h => h) (by rfl) (by assumption) ?_ ?_; rotate_left; · (intro w hSw; (try dsimp only at hSw); obtain ⟨n_, o_, a_, p_⟩ := hld _ hSw; have n0_ := n_.cell 0; have n1_ := n_.cell 1; have n2_ := n_.cell 2; have n3_ := n_.cell 3; have n4_ := n_.cell 4; have o0_ := o_.cell 0; simp only [List.getElem?_toArray, List.getElem?_cons_zero, List.getElem?_cons_succ] at n0_ n1_ n2_ n3_ n4_ o0_; go_simp; (try with_reducible rfl)))
                                  (try simp only [Act.put, List.setIfInBounds_toArray, List.set_cons_zero, List.set_cons_succ])
                                  (refine take_on 7 (some 207) (v := ?_) rfl rfl (by kernel_rfl) (by kernel_rfl) (by kernel_rfl) (fun _ _ _ h => h) (by rfl) (by assumption) ?_ ?_; rotate_left; · (intro w hSw; go_simp; (try with_reducible rfl)))
                                  (try simp only [Act.put, List.setIfInBounds_toArray, List.set_cons_zero, List.set_cons_succ])
                                  (refine take_on 8 (some 208) (v := ?_) rfl rfl (by kernel_rfl) (by kernel_rfl) (by kernel_rfl) (fun _ _ _ h => h) (by rfl) (by assumption) ?_ ?_; rotate_left; · (intro w hSw; go_simp; (try with_reducible rfl)))
                                  (try simp only [Act.put, List.setIfInBounds_toArray, List.set_cons_zero, List.set_cons_succ])
                                  (refine take_off 9 (some 209) rfl rfl (by kernel_rfl) (by kernel_rfl) (by kernel_rfl) (fun _ _ _ h => h) (by rfl) (by assumption) ?_)
                                  (try simp only [Act.put, List.setIfInBounds_toArray, List.set_cons_zero, List.set_cons_succ])
                                  (refine take_off 10 (some 210) rfl rfl (by kernel_rfl) (by kernel_rfl) (by kernel_rfl) (fun _ _ _ h => h) (by rfl) (by assumption) ?_)
                                  (try simp only [Act.put, List.setIfInBounds_toArray, List.set_cons_zero, List.set_cons_succ])
                                  (refine take_off 11 (some 211) rfl rfl (by kernel_rfl) (by kernel_rfl) (by kernel_rfl) (fun _ _ _ h => h) (by rfl) (by assumption) ?_)
                                  (try simp only [Act.put, List.setIfInBounds_toArray, List.set_cons_zero, List.set_cons_succ])
                                  (refine take_on 12 (some 212) (v := ?_) rfl rfl (by kernel_rfl) (by kernel_rfl) (by kernel_rfl) (fun _ _ _ h => h) (by rfl) (by assumption) ?_ ?_; rotate_left; · (intro w hSw; go_simp; (try with_reducible rfl)))
                                  (try simp only [Act.put, List.setIfInBounds_toArray, List.set_cons_zero, List.set_cons_succ])
                                  (refine take_on 13 (some 213) (v := ?_) rfl rfl (by kernel_rfl) (by kernel_rfl) (by kernel_rfl) (fun _ _ _ h => h) (by rfl) (by assumption) ?_ ?_; rotate_left; · (intro w hSw; go_simp; (try with_reducible rfl)))
                                  (try simp only [Act.put, List.setIfInBounds_toArray, List.set_cons_zero, List.set_cons_succ])
                                  (refine take_off 14 (some 214) rfl rfl (by kernel_rfl) (by kernel_rfl) (by kernel_rfl) (fun _ _ _ h => h) (by rfl) (by assumption) ?_)
                                  (try simp only [Act.put, List.setIfInBounds_toArray, List.set_cons_zero, List.set_cons_succ])
                                  (refine take_off 15 (some 215) rfl rfl (by kernel_rfl) (by kernel_rfl) (by kernel_rfl) (fun _ _ _ h => h) (by rfl) (by assumption) ?_)
                                  (try simp only [Act.put, List.setIfInBounds_toArray, List.set_cons_zero, List.set_cons_succ])
                                  (refine take_off 16 (some 216) rfl rfl (by kernel_rfl) (by kernel_rfl) (by kernel_rfl) (fun _ _ _ h => h) (by rfl) (by assumption) ?_)
                                  (try simp only [Act.put, List.setIfInBounds_toArray, List.set_cons_zero, List.set_cons_succ])
                                  (refine take_off 17 (some 217) rfl rfl (by kernel_rfl) (by kernel_rfl) (by kernel_rfl) (fun _ _ _ h => h) (by rfl) (by assumption) ?_)
                                  (try simp only [Act.put, List.setIfInBounds_toArray, List.set_cons_zero, List.set_cons_succ])
                                  (refine take_off 18 (some 218) rfl rfl (by kernel_rfl) (by kernel_rfl) (by kernel_rfl) (fun _ _ _ h => h) (by rfl) (by assumption) ?_)
                                  (try simp only [Act.put, List.setIfInBounds_toArray, List.set_cons_zero, List.set_cons_succ])
                                  (refine take_on 19 (some 219) (v := ?_) rfl rfl (by kernel_rfl) (by kernel_rfl) (by kernel_rfl) (fun _ _ _ h => h) (by rfl) (by assumption) ?_ ?_; rotate_left; · (intro w hSw; go_simp; (try with_reducible rfl)))
                                  (try simp only [Act.put, List.setIfInBounds_toArray, List.set_cons_zero, List.set_cons_succ])
                                  refine wpAnyH_done (by kernel_rfl) ?_ _
                                  refine NoPanic.normal ?_
                                  have H5 := H.new hHeld
                                  go_wp2_with fail
                                  go_meet
                                  exact ⟨rfl, H5⟩
                                · cases k2
                                  · refine wp_region_noPanic ?_
                                    refine wp_region_held_drew (S := (fun w' => Chg [] wc w')) (by kernel_rfl) ?_ (fun hHeld => ?_)
                                    · exact (Chg.refl [] wc).drew
                                    (refine take_on 0 (some 200) (v := ?_) rfl rfl (by kernel_rfl) (by kernel_rfl) (by kernel_rfl) (fun _ _ _ h => h) (by rfl) (by assumption) ?_ ?_; rotate_left; · (intro w hSw; go_simp; (try with_reducible rfl)))
                                    (try simp only [Act.put, List.setIfInBounds_toArray, List.set_cons_zero, List.set_cons_succ])
                                    (refine take_on 1 (some 201) (v := ?_) rfl rfl (by kernel_rfl) (by kernel_rfl) (by kernel_rfl) (fun _ _ _ h => h) (by rfl) (by assumption) ?_ ?_; rotate_left; · (intro w hSw; go_simp; (try with_reducible rfl)))
                                    (try simp only [Act.put, List.setIfInBounds_toArray, List.set_cons_zero, List.set_cons_succ])
                                    (refine take_on 2 (some 202) (v := ?_) rfl rfl (by kernel_rfl) (by kernel_rfl) (by kernel_rfl) (fun _ _ _ h => h) (by rfl) (by assumption) ?_ ?_; rotate_left; · (intro w hSw; go_simp; (try with_reducible rfl)))
                                    (try simp only [Act.put, List.setIfInBounds_toArray, List.set_cons_zero, List.set_cons_succ])
                                    (refine take_on 3 (some 203) (v := ?_) rfl rfl (by kernel_rfl) (by kernel_rfl) (by kernel_rfl) (fun _ _ _ h => h) (by rfl) (by assumption) ?_ ?_; rotate_left; · (intro w hSw; (try dsimp only at hSw); obtain ⟨n_, o_, a_, p_⟩ := hld _ hSw; have n0_ := n_.cell 0; have n1_ := n_.cell 1; have n2_ := n_.cell 2; have n3_ := n_.cell 3; have n4_ := n_.cell 4; have o0_ := o_.cell 0; simp only [List.getElem?_toArray, List.getElem?_cons_zero, List.getElem?_cons_succ] at n0_ n1_ n2_ n3_ n4_ o0_; go_simp; (try with_reducible rfl)))
                                    (try simp only [Act.put, List.setIfInBounds_toArray, List.set_cons_zero, List.set_cons_succ])
                                    (refine take_on 4 (some 204) (v := ?_) rfl rfl (by kernel_rfl) (by kernel_rfl) (by kernel_rfl) (fun _ _ _ h => h) (by rfl) (by assumption) ?_ ?_; rotate_left; · (intro w hSw; go_simp; (try with_reducible rfl)))
                                    (try simp only [Act.put, List.setIfInBounds_toArray, List.set_cons_zero, List.set_cons_succ])
                                    (refine take_on 5 (some 205) (v := ?_) rfl rfl (by kernel_rfl) (by kernel_rfl) (by kernel_rfl) (fun _ _ _ h => h) (by rfl) (by assumption) ?_ ?_; rotate_left; · (intro w hSw; go_simp; (try with_reducible rfl)))
                                    (try simp only [Act.put, List.setIfInBounds_toArray, List.set_cons_zero, List.set_cons_succ])
                                    (refine take_on 6 (some 206) (v := ?_) rfl rfl (by kernel_rfl) (by kernel_rfl) (by kernel_rfl) (fun _ _ _ h => h) (by rfl) (by assumption) ?_ ?_; rotate_left; · (intro w hSw; (try dsimp only at hSw); obtain ⟨n_, o_, a_, p_⟩ := hld _ hSw; have n0_ := n_.cell 0; have n1_ := n_.cell 1; have n2_ := n_.cell 2; have n3_ := n_.cell 3; have n4_ := n_.cell 4; have o0_ := o_.cell 0; simp only [List.getElem?_toArray, List.getElem?_cons_zero, List.getElem?_cons_succ] at n0_ n1_ n2_ n3_ n4_ o0_; go_simp; (try with_reducible rfl)))
                                    (try simp only [Act.put, List.setIfInBounds_toArray, List.set_cons_zero, List.set_cons_succ])
                                    (refine take_on 7 (some 207) (v := ?_) rfl rfl (by kernel_rfl) (by kernel_rfl) (by kernel_rfl) (fun _ _ _ h => h) (by rfl) (by assumption) ?_ ?_; rotate_left; · (intro w hSw; go_simp; (try with_reducible rfl)))
                                    (try simp only [Act.put, List.setIfInBounds_toArray, List.set_cons_zero, List.set_cons_succ])
                                    (refine take_on 8 (some 208) (v := ?_) rfl rfl (by kernel_rfl) (by kernel_rfl) (by kernel_rfl) (fun _ _ _ h => h) (by rfl) (by assumption) ?_ ?_; rotate_left; · (intro w hSw; go_simp; (try with_reducible rfl)))
                                    (try simp only [Act.put, List.setIfInBounds_toArray, List.set_cons_zero, List.set_cons_succ])
                                    (refine take_on 9 (some 209) (v := ?_) rfl rfl (by kernel_rfl) (by kernel_rfl) (by kernel_rfl) (fun _ _ _ h => h) (by rfl) (by assumption) ?_ ?_; rotate_left; · (intro w hSw; go_simp; (try with_reducible rfl)))
                                    (try simp only [Act.put, List.setIfInBounds_toArray, List.set_cons_zero, List.set_cons_succ])
                                    (refine take_on 10 (some 210) (v := ?_) rfl rfl (by kernel_rfl) (by kernel_rfl) (by kernel_rfl) (fun _ _ _ h => h) (by rfl) (by assumption) ?_ ?_; rotate_left; · (intro w hSw; (try dsimp only at hSw); obtain ⟨n_, o_, a_, p_⟩ := hld _ hSw; have n0_ := n_.cell 0; have n1_ := n_.cell 1; have n2_ := n_.cell 2; have n3_ := n_.cell 3; have n4_ := n_.cell 4; have o0_ := o_.cell 0; simp only [List.getElem?_toArray, List.getElem?_cons_zero, List.getElem?_cons_succ] at n0_ n1_ n2_ n3_ n4_ o0_; go_simp; (try with_reducible rfl)))
                                    (try simp only [Act.put, List.setIfInBounds_toArray, List.set_cons_zero, List.set_cons_succ])
                                    (refine take_on 11 (some 211) (v := ?_) rfl rfl (by kernel_rfl) (by kernel_rfl) (by kernel_rfl) (fun _ _ _ h => h) (by rfl) (by assumption) ?_ ?_; rotate_left; · (intro w hSw; go_simp; (try with_reducible rfl)))
                                    (try simp only [Act.put, List.setIfInBounds_toArray, List.set_cons_zero, List.set_cons_succ])
                                    (refine take_on 12 (some 212) (v := ?_) rfl rfl (by kernel_rfl) (by kernel_rfl) (by kernel_rfl) (fun _ _ _ h => h) (by rfl) (by assumption) ?_ ?_; rotate_left; · (intro w hSw; go_simp; (try with_reducible rfl)))
                                    (try simp only [Act.put, List.setIfInBounds_toArray, List.set_cons_zero, List.set_cons_succ])
                                    (refine take_on 13 (some 213) (v := ?_) rfl rfl (by kernel_rfl) (by kernel_rfl) (by kernel_rfl) (fun _ _ _ h => h) (by rfl) (by assumption) ?_ ?_; rotate_left; · (intro w hSw; go_simp; (try with_reducible rfl)))
                                    (try simp only [Act.put, List.setIfInBounds_toArray, List.set_cons_zero, List.set_cons_succ])
                                    (refine take_off 14 (some 214) rfl rfl (by kernel_rfl) (by kernel_rfl) (by kernel_rfl) (fun _ _ _ h => h) (by rfl) (by assumption) ?_)
                                    (try simp only [Act.put, List.setIfInBounds_toArray, List.set_cons_zero, List.set_cons_succ])
                                    (refine take_off 15 (some 215) rfl rfl (by kernel_rfl) (by kernel_rfl) (by kernel_rfl) (fun _ _ _ h => h) (by rfl) (by assumption) ?_)
                                    (try simp only [Act.put, List.setIfInBounds_toArray, List.set_cons_zero, List.set_cons_succ])
                                    (refine take_off 16 (some 216) rfl rfl (by kernel_rfl) (by kernel_rfl) (by kernel_rfl) (fun _ _ _ h => h) (by rfl) (by assumption) ?_)
                                    (try simp only [Act.put, List.setIfInBounds_toArray, List.set_cons_zero, List.set_cons_succ])
                                    (refine take_off 17 (some 217) rfl rfl (by kernel_rfl) (by kernel_rfl) (by kernel_rfl) (fun _ _ _ h => h) (by rfl) (by assumption) ?_)
                                    (try simp only [Act.put, List.setIfInBounds_toArray, List.set_cons_zero, List.set_cons_succ])
                                    (refine take_off 18 (some 218) rfl rfl (by kernel_rfl) (by kernel_rfl) (by kernel_rfl) (fun _ _ _ h => h) (by rfl) (by assumption) ?_)
                                    (try simp only [Act.put, List.setIfInBounds_toArray, List.set_cons_zero, List.set_cons_succ])
                                    (refine take_on 19 (some 219) (v := ?_) rfl rfl (by kernel_rfl) (by kernel_rfl) (by kernel_rfl) (fun _ _ _ h => h) (by rfl) (by assumption) ?_ ?_; rotate_left; · (intro w hSw; go_simp; (try with_reducible rfl)))
                                    (try simp only [Act.put, List.setIfInBounds_toArray, List.set_cons_zero, List.set_cons_succ])
                                    refine wpAnyH_done (by kernel_rfl) ?_ _
                                    refine NoPanic.normal ?_
                                    have H5 := H.new hHeld
                                    go_wp2_with fail
                                    go_meet
                                    exact ⟨rfl, H5⟩
                                  · refine wp_region_noPanic ?_
                                    refine wp_region_held_drew (S := (fun w' => Chg [] wc w')) (by kernel_rfl) ?_ (fun hHeld => ?_)
                                    · exact (Chg.refl [] wc).drew
                                    (refine take_on 0 (some 200) (v := ?_) rfl rfl (by kernel_rfl) (by kernel_rfl) (by kernel_rfl) (fun _ _ _ h => h) (by rfl) (by assumption) ?_ ?_; rotate_left; · (intro w hSw; go_simp; (try with_reducible rfl)))
                                    (try simp only [Act.put, List.setIfInBounds_toArray, List.set_cons_zero, List.set_cons_succ])
                                    (refine take_on 1 (some 201) (v := ?_) rfl rfl (by kernel_rfl) (by kernel_rfl) (by kernel_rfl) (fun _ _ _ h => h) (by rfl) (by assumption) ?_ ?_; rotate_left; · (intro w hSw; go_simp; (try with_reducible rfl)))
                                    (try simp only [Act.put, List.setIfInBounds_toArray, List.set_cons_zero, List.set_cons_succ])
                                    (refine take_on 2 (some 202) (v := ?_) rfl rfl (by kernel_rfl) (by kernel_rfl) (by kernel_rfl) (fun _ _ _ h => h) (by rfl) (by assumption) ?_ ?_; rotate_left; · (intro w hSw; go_simp; (try with_reducible rfl)))
                                    (try simp only [Act.put, List.setIfInBounds_toArray, List.set_cons_zero, List.set_cons_succ])
                                    (refine take_on 3 (some 203) (v := ?_) rfl rfl (by kernel_rfl) (by kernel_rfl) (by kernel_rfl) (fun _ _ _ h => h) (by rfl) (by assumption) ?_ ?_; rotate_left; · (intro w hSw; (try dsimp only at hSw); obtain ⟨n_, o_, a_, p_⟩ := hld _ hSw; have n0_ := n_.cell 0; have n1_ := n_.cell 1; have n2_ := n_.cell 2; have n3_ := n_.cell 3; have n4_ := n_.cell 4; have o0_ := o_.cell 0; simp only [List.getElem?_toArray, List.getElem?_cons_zero, List.getElem?_cons_succ] at n0_ n1_ n2_ n3_ n4_ o0_; go_simp; (try with_reducible rfl)))
                                    (try simp only [Act.put, List.setIfInBounds_toArray, List.set_cons_zero, List.set_cons_succ])
                                    (refine take_on 4 (some 204) (v := ?_) rfl rfl (by kernel_rfl) (by kernel_rfl) (by kernel_rfl) (fun _ _ _ h => h) (by rfl) (by assumption) ?_ ?_; rotate_left; · (intro w hSw; go_simp; (try with_reducible rfl)))
                                    (try simp only [Act.put, List.setIfInBounds_toArray, List.set_cons_zero, List.set_cons_succ])
                                    (refine take_on 5 (some 205) (v := ?_) rfl rfl (by kernel_rfl) (by kernel_rfl) (by kernel_rfl) (fun _ _ _ h => h) (by rfl) (by assumption) ?_ ?_; rotate_left; · (intro w hSw; go_simp; (try with_reducible rfl)))
                                    (try simp only [Act.put, List.setIfInBounds_toArray, List.set_cons_zero, List.set_cons_succ])
                                    (refine take_on 6 (some 206) (v := ?_) rfl rfl (by kernel_rfl) (by kernel_rfl) (by kernel_rfl) (fun _ _ _ h => h) (by rfl) (by assumption) ?_ ?_; rotate_left; · (intro w hSw; (try dsimp only at hSw); obtain ⟨n_, o_, a_, p_⟩ := hld _ hSw; have n0_ := n_.cell 0; have n1_ := n_.cell 1; have n2_ := n_.cell 2; have n3_ := n_.cell 3; have n4_ := n_.cell 4; have o0_ := o_.cell 0; simp only [List.getElem?_toArray, List.getElem?_cons_zero, List.getElem?_cons_succ] at n0_ n1_ n2_ n3_ n4_ o0_; go_simp; (try with_reducible rfl)))
                                    (try simp only [Act.put, List.setIfInBounds_toArray, List.set_cons_zero, List.set_cons_succ])
                                    (refine take_on 7 (some 207) (v := ?_) rfl rfl (by kernel_rfl) (by kernel_rfl) (by kernel_rfl) (fun _ _ _ h => h) (by rfl) (by assumption) ?_ ?_; rotate_left; · (intro w hSw; go_simp; (try with_reducible rfl)))
                                    (try simp only [Act.put, List.setIfInBounds_toArray, List.set_cons_zero, List.set_cons_succ])
                                    (refine take_on 8 (some 208) (v := ?_) rfl rfl (by kernel_rfl) (by kernel_rfl) (by kernel_rfl) (fun _ _ _ h => h) (by rfl) (by assumption) ?_ ?_; rotate_left; · (intro w hSw; go_simp; (try with_reducible rfl)))
                                    (try simp only [Act.put, List.setIfInBounds_toArray, List.set_cons_zero, List.set_cons_succ])
                                    (refine take_on 9 (some 209) (v := ?_) rfl rfl (by kernel_rfl) (by kernel_rfl) (by kernel_rfl) (fun _ _ _ h => h) (by rfl) (by assumption) ?_ ?_; rotate_left; · (intro w hSw; go_simp; (try with_reducible rfl)))
                                    (try simp only [Act.put, List.setIfInBounds_toArray, List.set_cons_zero, List.set_cons_succ])
                                    (refine take_on 10 (some 210) (v := ?_) rfl rfl (by kernel_rfl) (by kernel_rfl) (by kernel_rfl) (fun _ _ _ h => h) (by rfl) (by assumption) ?_ ?_; rotate_left; · (intro w hSw; (try dsimp only at hSw); obtain ⟨n_, o_, a_, p_⟩ := hld _ hSw; have n0_ := n_.cell 0; have n1_ := n_.cell 1; have n2_ := n_.cell 2; have n3_ := n_.cell 3; have n4_ := n_.cell 4; have o0_ := o_.cell 0; simp only [List.getElem?_toArray, List.getElem?_cons_zero, List.getElem?_cons_succ] at n0_ n1_ n2_ n3_ n4_ o0_; go_simp; (try with_reducible rfl)))
                                    (try simp only [Act.put, List.setIfInBounds_toArray, List.set_cons_zero, List.set_cons_succ])
                                    (refine take_on 11 (some 211) (v := ?_) rfl rfl (by kernel_rfl) (by kernel_rfl) (by kernel_rfl) (fun _ _ _ h => h) (by rfl) (by assumption) ?_ ?_; rotate_left; · (intro w hSw; go_simp; (try with_reducible rfl)))
                                    (try simp only [Act.put, List.setIfInBounds_toArray, List.set_cons_zero, List.set_cons_succ])
                                    (refine take_on 12 (some 212) (v := ?_) rfl rfl (by kernel_rfl) (by kernel_rfl) (by kernel_rfl) (fun _ _ _ h => h) (by rfl) (by assumption) ?_ ?_; rotate_left; · (intro w hSw; go_simp; (try with_reducible rfl)))
                                    (try simp only [Act.put, List.setIfInBounds_toArray, List.set_cons_zero, List.set_cons_succ])
                                    (refine take_on 13 (some 213) (v := ?_) rfl rfl (by kernel_rfl) (by kernel_rfl) (by kernel_rfl) (fun _ _ _ h => h) (by rfl) (by assumption) ?_ ?_; rotate_left; · (intro w hSw; go_simp; (try with_reducible rfl)))
                                    (try simp only [Act.put, List.setIfInBounds_toArray, List.set_cons_zero, List.set_cons_succ])
                                    (refine take_on 14 (some 214) (v := ?_) rfl rfl (by kernel_rfl) (by kernel_rfl) (by kernel_rfl) (fun _ _ _ h => h) (by rfl) (by assumption) ?_ ?_; rotate_left; · (intro w hSw; (try dsimp only at hSw); obtain ⟨n_, o_, a_, p_⟩ := hld _ hSw; have n0_ := n_.cell 0; have n1_ := n_.cell 1; have n2_ := n_.cell 2; have n3_ := n_.cell 3; have n4_ := n_.cell 4; have o0_ := o_.cell 0; simp only [List.getElem?_toArray, List.getElem?_cons_zero, List.getElem?_cons_succ] at n0_ n1_ n2_ n3_ n4_ o0_; go_simp; (try with_reducible rfl)))
                                    (try simp only [Act.put, List.setIfInBounds_toArray, List.set_cons_zero, List.set_cons_succ])
                                    (refine take_on 15 (some 215) (v := ?_) rfl rfl (by kernel_rfl) (by kernel_rfl) (by kernel_rfl) (fun _ _ _ h => h) (by rfl) (by assumption) ?_ ?_; rotate_left; · (intro w hSw; go_simp; (try with_reducible rfl)))
                                    (try simp only [Act.put, List.setIfInBounds_toArray, List.set_cons_zero, List.set_cons_succ])
                                    refine wpAnyH_ready (rs := [16]) (by kernel_rfl) (by simp) ?_; refine AllReadyH.cons (o := _) rfl (fun K hK => ?_) AllReadyH.nil
                                    go_simp
                                    go_at_call 28; refine (cP _).mono ?_; rintro e_0 w_0 ⟨rfl, y0⟩; first | exact hx_ | skip
                                    refine hK.out _ _ (by (try dsimp only); exact hHeld.trans y0 (by simp)) (fun hHeld => ?_)
                                    clear hK K
                                    (try simp only [Act.put, List.setIfInBounds_toArray, List.set_cons_zero, List.set_cons_succ])
                                    refine wpAnyH_ready (rs := [17]) (by kernel_rfl) (by simp) ?_; refine AllReadyH.cons (o := _) rfl (fun K hK => ?_) AllReadyH.nil
                                    go_simp
                                    go_at_call 27; refine (cQ _).mono ?_; rintro e_1 w_1 ⟨rfl, y1⟩; first | exact hx_ | skip
                                    refine hK.out _ _ (by (try dsimp only); exact hHeld.trans y1 (by simp)) (fun hHeld => ?_)
                                    clear hK K
                                    (try simp only [Act.put, List.setIfInBounds_toArray, List.set_cons_zero, List.set_cons_succ])
                                    (refine take_on 18 (some 218) (v := ?_) rfl rfl (by kernel_rfl) (by kernel_rfl) (by kernel_rfl) (fun _ _ _ h => h) (by rfl) (by assumption) ?_ ?_; rotate_left; · (intro w hSw; go_simp; (try with_reducible rfl)))
                                    (try simp only [Act.put, List.setIfInBounds_toArray, List.set_cons_zero, List.set_cons_succ])
                                    (refine take_on 19 (some 219) (v := ?_) rfl rfl (by kernel_rfl) (by kernel_rfl) (by kernel_rfl) (fun _ _ _ h => h) (by rfl) (by assumption) ?_ ?_; rotate_left; · (intro w hSw; go_simp; (try with_reducible rfl)))
                                    (try simp only [Act.put, List.setIfInBounds_toArray, List.set_cons_zero, List.set_cons_succ])
                                    refine wpAnyH_done (by kernel_rfl) ?_ _
                                    refine NoPanic.normal ?_
                                    have H5 := H.new hHeld
                                    go_wp2_with fail
                                    go_meet
                                    exact ⟨rfl, H5⟩
                              case rest =>
                                obtain ⟨rfl, H5⟩ := hcut
                                clear H cP cQ
                                obtain ⟨hit, hhit⟩ : ∃ hit, (fe && (k2 && !ag)) = hit := ⟨_, rfl⟩
                                have hy2 := hy_.out
                                rw [hhit] at hy2
                                rw [hhit]
                                clear hy_ hhit hk2 htg hfe
                                cases hit
                                · rw [if_neg (by simp)] at hy2
                                  cases hy2
                                  have e0 := H5.blk.cell 0; have e1 := H5.blk.cell 1; have e2 := H5.blk.cell 2; have e3 := H5.blk.cell 3; have e4 := H5.blk.cell 4
                                  simp only [List.getElem?_toArray, List.getElem?_cons_zero, List.getElem?_cons_succ] at e0 e1 e2 e3 e4
                                  have f0 := (H5.pick 2 rfl).blk.cell 0; have f1 := (H5.pick 2 rfl).blk.cell 1; have f2 := (H5.pick 2 rfl).blk.cell 2; have f3 := (H5.pick 2 rfl).blk.cell 3; have f4 := (H5.pick 2 rfl).blk.cell 4
                                  simp only [List.getElem?_toArray, List.getElem?_cons_zero, List.getElem?_cons_succ] at f0 f1 f2 f3 f4
                                  have hns := run_neSl (⟨yk, yt, ⟨yw, yu, yx⟩⟩ : Slt) (⟨yk, yt, ⟨yw, yu, yx⟩⟩ : Slt)
                                  rw [decide_eq_true (rfl : (⟨yk, yt, ⟨yw, yu, yx⟩⟩ : Slt) = (⟨yk, yt, ⟨yw, yu, yx⟩⟩ : Slt))] at hns
                                  simp only [Slt.cl, Bool.not_true] at hns
                                  have H9 := H5.tail.tail.tail
                                  clear H5
                                  go_wp2_with fail
                                  go_roundw
                                  case rel => exact ⟨i + 1, by omega, by go_num, H9⟩
                                  case measure => simp [intOf]; omega
                                · rw [if_pos rfl] at hy2
                                  simp only [Slt.no] at hy2
                                  cases hy2
                                  have z0_ := H5.blk.frozen 0
                                  have z1_ := H5.blk.frozen 1
                                  have z2_ := H5.blk.frozen 2
                                  have z3_ := H5.blk.frozen 3
                                  have z4_ := H5.blk.frozen 4
                                  have e0 := H5.blk.cell 0; have e1 := H5.blk.cell 1; have e2 := H5.blk.cell 2; have e3 := H5.blk.cell 3; have e4 := H5.blk.cell 4
                                  simp only [List.getElem?_toArray, List.getElem?_cons_zero, List.getElem?_cons_succ] at e0 e1 e2 e3 e4
                                  go_upto_region 44 with fail
                                  have H6 := (((((H5).cellSet 0 (.int .i64 0)).cellSet 1 (.int .i64 0)).cellSet 2 (.bool false)).cellSet 3 (.bool false)).cellSet 4 (.bool false)
                                  simp only [List.setIfInBounds_toArray, List.set_cons_zero, List.set_cons_succ] at H6
                                  clear H5 z0_ z1_ z2_ z3_ z4_ e0 e1 e2 e3 e4
                                  generalize (((((wc.setCell ⟨nb, 0, none⟩ (.int .i64 0)).setCell ⟨nb, 1, none⟩ (.int .i64 0)).setCell ⟨nb, 2, none⟩ (.bool false)).setCell ⟨nb, 3, none⟩ (.bool false)).setCell ⟨nb, 4, none⟩ (.bool false)) = z18 at *
                                  have e0 := H6.blk.cell 0; have e1 := H6.blk.cell 1; have e2 := H6.blk.cell 2; have e3 := H6.blk.cell 3; have e4 := H6.blk.cell 4
                                  simp only [List.getElem?_toArray, List.getElem?_cons_zero, List.getElem?_cons_succ] at e0 e1 e2 e3 e4
                                  have f0 := (H6.pick 2 rfl).blk.cell 0; have f1 := (H6.pick 2 rfl).blk.cell 1; have f2 := (H6.pick 2 rfl).blk.cell 2; have f3 := (H6.pick 2 rfl).blk.cell 3; have f4 := (H6.pick 2 rfl).blk.cell 4
                                  simp only [List.getElem?_toArray, List.getElem?_cons_zero, List.getElem?_cons_succ] at f0 f1 f2 f3 f4
                                  have hns := run_neSl Slt.no Slt.no
                                  rw [decide_eq_true (rfl : Slt.no = Slt.no)] at hns
                                  simp only [Slt.cl, Slt.no, Bool.not_true] at hns
                                  have H9 := H6.tail.tail.tail
                                  clear H6
                                  go_wp2_with fail
                                  go_roundw
                                  case rel => exact ⟨i + 1, by omega, by go_num, H9⟩
                                  case measure => simp [intOf]; omega
                      · obtain rfl : i = 8 := by omega
                        have hiz : ¬ (8 : Int) < 8 := by omega
                        go_wp2_with fail
                        go_roundw
                        case rel => exact ⟨j + 1, by omega, by go_num, H⟩
                        case measure => simp [intOf]; omega
                  · have ej : N7 = j := by omega
                    subst ej
                    have hjz : ¬ (N7 : Int) < (N7 : Int) := by omega
                    go_wp2_with fail
                    go_ret
                    exact ⟨rfl, H.1⟩

end Go.Proofs.Ytgjfidjhbkaobaa
