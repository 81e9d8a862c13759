/-
  GuestWithin: the walk.
-/
import Derived.Test.YtepbknndemlbcaaLawGuestSets
namespace Go.Proofs.Ytepbknndemlbcaa
open Go.RowKit Go.Maps

/-- block g keeps what the frames of W were, up to frame k -/
structure WasAt (w : World) (g b : Nat) (W : List Int) (k : Nat) (cs : Array Value) : Prop where
  bk : Blk w g 51 cs
  sz : cs.size = 40
  at_ : ∀ j, j < k → ∃ A c, cs[j]? = some (.slice A 8 c) ∧ SlU w A 8 (frameOf W j) ∧ ∀ gb o, A = some ⟨gb, o, none⟩ → gb ≠ b ∧ gb ≠ g
theorem WasAt.chg {w w' : World} {g b k : Nat} {W : List Int} {T : List Nat} {cs : Array Value} (h : WasAt w g b W k cs) (hc : Chg T w w') (hT : ∀ i ∈ T, i = b) (hg : g ∉ T) : WasAt w' g b W k cs :=
  ⟨hc.blk h.bk hg, h.sz, fun j hj => by
    obtain ⟨A, c, h1, h2, h3⟩ := h.at_ j hj
    exact ⟨A, c, h1, h2.chg hc (fun gb o e hm => (h3 gb o e).1 (hT gb hm)), h3⟩⟩
theorem WasAt.set_ {w : World} {g b k z : Nat} {W : List Int} {cs : Array Value} (h : WasAt w g b W k cs) (hk : k < 40) (hs : SlU w (some ⟨z, 0, none⟩) 8 (frameOf W k)) (hzb : z ≠ b) (hzg : z ≠ g) :
    WasAt (w.setCell ⟨g, k, none⟩ (.slice (some ⟨z, 0, none⟩) 8 8)) g b W (k + 1) (cs.setIfInBounds k (.slice (some ⟨z, 0, none⟩) 8 8)) := by
  have hcs : Chg [g] w (w.setCell ⟨g, k, none⟩ (.slice (some ⟨z, 0, none⟩) 8 8)) := (Chg.refl _ _).setCell (by simp) _
  refine ⟨h.bk.set_ k _, by simp [h.sz], fun j hj => ?_⟩
  by_cases e : j = k
  · subst e
    exact ⟨some ⟨z, 0, none⟩, 8, by simp [h.sz, hk], hs.chg hcs (fun gb o e => by injection e with e; injection e with e _; subst e; simpa using hzg), fun gb o e => by injection e with e; injection e with e _; subst e; exact ⟨hzb, hzg⟩⟩
  · obtain ⟨A, c, h1, h2, h3⟩ := h.at_ j (by omega)
    exact ⟨A, c, by rw [Array.getElem?_setIfInBounds_ne (by omega)]; exact h1, h2.chg hcs (fun gb o e => by simpa using (h3 gb o e).2), h3⟩

set_option maxRecDepth 100000 in
set_option maxHeartbeats 8000000 in
theorem GuestWithin_walk (A : Option Addr) (n c : Nat) (L : List Int) (B : Option Addr) (m d : Nat) (v : Int) (w : World) (h : SlK .i64 w A n L) (hop : SlOp w B m) :
    Calls Try.prog 4 #[.slice A n c, .slice B m d, .int .u64 v] w fun e w' => e = .returned (.bool true) ∧ Chg [] w w' := by
  have hl := h.le
  have hlen := h.len
  have hm := hop.le
  subst hlen
  go_enter Try.func4, Try.ntmps4
  go_wp2_with fail
  refine (Guhead_any _).mono ?_; rintro e w1 ⟨rfl, hc1⟩
  go_wp2_with fail
  refine (New_at 40 _ (by omega) (by omega)).mono ?_; rintro e w2 ⟨hp, b, rfl, hc2, hm2, hh, hb⟩
  have hca : Chg [] w w2 := hc1.trans hc2 (by simp)
  have hbw : w.heap.size ≤ b := by have := hc1.size; omega
  clear hc1 hc2 hh hb
  by_cases hok : OkL L 40
  · have hn64 : L.length ≤ 64 := hok.2.1
    go_wp2_with fail
    refine (GNew_ok A L.length c L 40 _ (h.chg hca) hok).mono ?_; rintro e w3 ⟨p, S, rfl, hc3, h3, hS⟩
    have hm3 := hm2.chg hc3 (by simp) (by simp)
    have hcb : Chg [] w w3 := hca.trans hc3 (by simp)
    clear hca hc3 hm2 hS
    go_wp2_with fail
    refine (Great7_any B m d _ (hop.chg hcb)).mono ?_; rintro e w' ⟨⟨gr, rfl⟩, rfl⟩
    cases gr with
    | true =>
      go_wp2_with fail
      go_ret
      exact ⟨rfl, hcb⟩
    | false =>
      generalize zeros (8 * 40) = W at *
      go_wp2_with fail
      go_loopw [10] (fun i w' => ∃ (k : Nat) (W : List Int), k ≤ 40 ∧ i = .int .i64 k ∧ Chg [] w w' ∧ MemAt w' hp b 40 W ∧ GAt w' S p L) (fun i _ => 40 - (intOf i).toNat)
      case atStart => exact ⟨0, W, by omega, rfl, hcb, hm3, h3⟩
      case round =>
        clear hcb hm3 h3 W
        obtain ⟨k, W, hk, rfl, hc, hmr, hgr⟩ := hrel
        by_cases hlt : k < 40
        · go_wp2_with fail
          refine (Set_at hp b 40 W _ _ _ _ hmr).mono ?_; rintro e w5 ⟨rfl, hc5, hm5⟩
          have hg5 := hgr.chg hc5 (fun i hi hm => by rw [List.mem_singleton] at hm; subst hm; exact hgr.apart hmr.ws hi)
          have hcw : Chg [] w w5 := hc.trans hc5 (by intro i hi hm; simp at hm; omega)
          go_wp2_with fail
          go_roundw
          case rel => exact ⟨k + 1, _, by omega, by go_num, hcw, hm5, hg5⟩
          case measure => simp [intOf]; omega
        · go_wp2_with fail
          have hbk := Blk.new wr 51 #[.slice none 0 0, .slice none 0 0, .slice none 0 0, .slice none 0 0, .slice none 0 0, .slice none 0 0, .slice none 0 0, .slice none 0 0, .slice none 0 0, .slice none 0 0, .slice none 0 0, .slice none 0 0, .slice none 0 0, .slice none 0 0, .slice none 0 0, .slice none 0 0, .slice none 0 0, .slice none 0 0, .slice none 0 0, .slice none 0 0, .slice none 0 0, .slice none 0 0, .slice none 0 0, .slice none 0 0, .slice none 0 0, .slice none 0 0, .slice none 0 0, .slice none 0 0, .slice none 0 0, .slice none 0 0, .slice none 0 0, .slice none 0 0, .slice none 0 0, .slice none 0 0, .slice none 0 0, .slice none 0 0, .slice none 0 0, .slice none 0 0, .slice none 0 0, .slice none 0 0]
          have hsz : (#[.slice none 0 0, .slice none 0 0, .slice none 0 0, .slice none 0 0, .slice none 0 0, .slice none 0 0, .slice none 0 0, .slice none 0 0, .slice none 0 0, .slice none 0 0, .slice none 0 0, .slice none 0 0, .slice none 0 0, .slice none 0 0, .slice none 0 0, .slice none 0 0, .slice none 0 0, .slice none 0 0, .slice none 0 0, .slice none 0 0, .slice none 0 0, .slice none 0 0, .slice none 0 0, .slice none 0 0, .slice none 0 0, .slice none 0 0, .slice none 0 0, .slice none 0 0, .slice none 0 0, .slice none 0 0, .slice none 0 0, .slice none 0 0, .slice none 0 0, .slice none 0 0, .slice none 0 0, .slice none 0 0, .slice none 0 0, .slice none 0 0, .slice none 0 0, .slice none 0 0] : Array Value).size = 40 := rfl
          have hcA : Chg [] wr (wr.alloc (.cells #[.slice none 0 0, .slice none 0 0, .slice none 0 0, .slice none 0 0, .slice none 0 0, .slice none 0 0, .slice none 0 0, .slice none 0 0, .slice none 0 0, .slice none 0 0, .slice none 0 0, .slice none 0 0, .slice none 0 0, .slice none 0 0, .slice none 0 0, .slice none 0 0, .slice none 0 0, .slice none 0 0, .slice none 0 0, .slice none 0 0, .slice none 0 0, .slice none 0 0, .slice none 0 0, .slice none 0 0, .slice none 0 0, .slice none 0 0, .slice none 0 0, .slice none 0 0, .slice none 0 0, .slice none 0 0, .slice none 0 0, .slice none 0 0, .slice none 0 0, .slice none 0 0, .slice none 0 0, .slice none 0 0, .slice none 0 0, .slice none 0 0, .slice none 0 0, .slice none 0 0] 51)) := (Chg.refl _ _).alloc _
          have hws : WasAt (wr.alloc (.cells #[.slice none 0 0, .slice none 0 0, .slice none 0 0, .slice none 0 0, .slice none 0 0, .slice none 0 0, .slice none 0 0, .slice none 0 0, .slice none 0 0, .slice none 0 0, .slice none 0 0, .slice none 0 0, .slice none 0 0, .slice none 0 0, .slice none 0 0, .slice none 0 0, .slice none 0 0, .slice none 0 0, .slice none 0 0, .slice none 0 0, .slice none 0 0, .slice none 0 0, .slice none 0 0, .slice none 0 0, .slice none 0 0, .slice none 0 0, .slice none 0 0, .slice none 0 0, .slice none 0 0, .slice none 0 0, .slice none 0 0, .slice none 0 0, .slice none 0 0, .slice none 0 0, .slice none 0 0, .slice none 0 0, .slice none 0 0, .slice none 0 0, .slice none 0 0, .slice none 0 0] 51)) wr.heap.size b W 0 #[.slice none 0 0, .slice none 0 0, .slice none 0 0, .slice none 0 0, .slice none 0 0, .slice none 0 0, .slice none 0 0, .slice none 0 0, .slice none 0 0, .slice none 0 0, .slice none 0 0, .slice none 0 0, .slice none 0 0, .slice none 0 0, .slice none 0 0, .slice none 0 0, .slice none 0 0, .slice none 0 0, .slice none 0 0, .slice none 0 0, .slice none 0 0, .slice none 0 0, .slice none 0 0, .slice none 0 0, .slice none 0 0, .slice none 0 0, .slice none 0 0, .slice none 0 0, .slice none 0 0, .slice none 0 0, .slice none 0 0, .slice none 0 0, .slice none 0 0, .slice none 0 0, .slice none 0 0, .slice none 0 0, .slice none 0 0, .slice none 0 0, .slice none 0 0, .slice none 0 0] := ⟨hbk, hsz, fun j hj => absurd hj (by omega)⟩
          have hcB : Chg [] w (wr.alloc (.cells #[.slice none 0 0, .slice none 0 0, .slice none 0 0, .slice none 0 0, .slice none 0 0, .slice none 0 0, .slice none 0 0, .slice none 0 0, .slice none 0 0, .slice none 0 0, .slice none 0 0, .slice none 0 0, .slice none 0 0, .slice none 0 0, .slice none 0 0, .slice none 0 0, .slice none 0 0, .slice none 0 0, .slice none 0 0, .slice none 0 0, .slice none 0 0, .slice none 0 0, .slice none 0 0, .slice none 0 0, .slice none 0 0, .slice none 0 0, .slice none 0 0, .slice none 0 0, .slice none 0 0, .slice none 0 0, .slice none 0 0, .slice none 0 0, .slice none 0 0, .slice none 0 0, .slice none 0 0, .slice none 0 0, .slice none 0 0, .slice none 0 0, .slice none 0 0, .slice none 0 0] 51)) := hc.trans hcA (by simp)
          have hgb : wr.heap.size ≠ b := by have := hmr.ws.lt; omega
          have hgw : w.heap.size ≤ wr.heap.size := hc.size
          have hpg : hp ≠ wr.heap.size := by have := hmr.st.lt; omega
          have hSg : ∀ i ∈ S, i ∉ [wr.heap.size] := fun i hi hm => by rw [List.mem_singleton] at hm; have := hgr.lt i hi; omega
          clear hbk hsz
          generalize wr.alloc (.cells #[.slice none 0 0, .slice none 0 0, .slice none 0 0, .slice none 0 0, .slice none 0 0, .slice none 0 0, .slice none 0 0, .slice none 0 0, .slice none 0 0, .slice none 0 0, .slice none 0 0, .slice none 0 0, .slice none 0 0, .slice none 0 0, .slice none 0 0, .slice none 0 0, .slice none 0 0, .slice none 0 0, .slice none 0 0, .slice none 0 0, .slice none 0 0, .slice none 0 0, .slice none 0 0, .slice none 0 0, .slice none 0 0, .slice none 0 0, .slice none 0 0, .slice none 0 0, .slice none 0 0, .slice none 0 0, .slice none 0 0, .slice none 0 0, .slice none 0 0, .slice none 0 0, .slice none 0 0, .slice none 0 0, .slice none 0 0, .slice none 0 0, .slice none 0 0, .slice none 0 0] 51) = wA at *
          generalize (#[.slice none 0 0, .slice none 0 0, .slice none 0 0, .slice none 0 0, .slice none 0 0, .slice none 0 0, .slice none 0 0, .slice none 0 0, .slice none 0 0, .slice none 0 0, .slice none 0 0, .slice none 0 0, .slice none 0 0, .slice none 0 0, .slice none 0 0, .slice none 0 0, .slice none 0 0, .slice none 0 0, .slice none 0 0, .slice none 0 0, .slice none 0 0, .slice none 0 0, .slice none 0 0, .slice none 0 0, .slice none 0 0, .slice none 0 0, .slice none 0 0, .slice none 0 0, .slice none 0 0, .slice none 0 0, .slice none 0 0, .slice none 0 0, .slice none 0 0, .slice none 0 0, .slice none 0 0, .slice none 0 0, .slice none 0 0, .slice none 0 0, .slice none 0 0, .slice none 0 0] : Array Value) = cs at *
          have hmA := hmr.chg hcA (by simp) (by simp)
          have hgA := hgr.self hcA
          clear hcA hmr hgr hc
          generalize wr.heap.size = g at *
          clear wr
          go_loopw [12] (fun i w' => ∃ (k : Nat) (cs : Array Value), k ≤ 40 ∧ i = .int .i64 k ∧ Chg [g] wA w' ∧ WasAt w' g b W k cs) (fun i _ => 40 - (intOf i).toNat)
          case atStart => exact ⟨0, cs, by omega, rfl, Chg.refl _ _, hws⟩
          case round =>
            have hgA' := hws.bk.lt
            clear hws cs hk
            obtain ⟨k, cs, hk, rfl, hcr, hwr⟩ := hrel
            have hmr := hmA.chg hcr (by simpa using hpg) (by simpa using hgb.symm)
            have hcw : Chg [] w wr := hcB.trans hcr (by intro i hi hm; simp at hm; omega)
            by_cases hlt : k < 40
            · go_wp2_with fail
              refine (Frame_yes hp b 40 W k _ hmr hlt).mono ?_; rintro e w5 ⟨rfl, hc5, hz5, hb5⟩
              have hw5 := hwr.chg hc5 (by simp) (by simp)
              have hs5 := SlU.of_blk hb5 (frameOf_len hmr.len hlt)
              have hzb : wr.heap.size ≠ b := by have := hmr.ws.lt; omega
              have hzg : wr.heap.size ≠ g := by have := hwr.bk.lt; omega
              have hnext := hw5.set_ hlt hs5 hzb hzg
              have hcn : Chg [g] wA (w5.setCell ⟨g, k, none⟩ (.slice (some ⟨wr.heap.size, 0, none⟩) 8 8)) := (hcr.trans hc5 (by simp)).setCell (by simp) _
              have d5 : ∃ u, w5.cell? ⟨g, k, none⟩ = some u := by
                rw [hw5.bk.cell, Array.getElem?_eq_getElem (by rw [hw5.sz]; exact hlt)]; exact ⟨_, rfl⟩
              obtain ⟨u5, d5⟩ := d5
              have f5 := hw5.bk.frozen k
              clear hc5 hz5 hb5 hw5 hs5 hzb hzg hmr hwr hcr hcw
              go_wp2_with fail
              go_roundw
              case rel => exact ⟨k + 1, _, by omega, by go_num, hcn, hnext⟩
              case measure => simp [intOf]; omega
            · obtain rfl : k = 40 := by omega
              have hgr := hgA.chg hcr hSg
              clear hcB hgA hmA hcr hlt hk
              go_wp2_with fail
              refine (GuNew_at p hp _).mono ?_; rintro e w4 ⟨q, rfl, hc4, h4, hq⟩
              have g4 : GuIn w4 q S p L hp b 40 W := ⟨h4, hgr.self hc4, hmr.chg hc4 (by simp) (by simp), hok.inh⟩
              have hcc : Chg [] w w4 := hcw.trans hc4 (by simp)
              have hw4 := hwr.chg hc4 (by simp) (by simp)
              clear hcw hc4 h4 hgr hmr hwr hq
              go_wp2_with fail
              go_loopw [14] (fun i w' => ∃ (k : Nat) (W' : List Int), k ≤ m ∧ i = .int .i64 k ∧ Chg [] w w' ∧ GuIn w' q S p L hp b 40 W' ∧ Out L W W' ∧ WasAt w' g b W 40 cs) (fun i _ => m - (intOf i).toNat)
              case atStart => exact ⟨0, W, by omega, rfl, hcc, g4, Out.refl _ _, hw4⟩
              case round =>
                clear hcc g4 hw4
                obtain ⟨k, W', hk, rfl, hc, gg, hO, hw⟩ := hrel
                have HO := Lib.hid hO
                clear hO
                by_cases hlt : k < m
                · obtain ⟨ob, off, rfl, what, f, i, x, LA, LN, LC, xs, ho0⟩ := hop.get hlt
                  have ho := ho0.chg hc (World.block_lt_of_cell? _ _ ho0.c0)
                  have c0 := ho.c0; have c1 := ho.c1; have c2 := ho.c2; have c3 := ho.c3; have c4 := ho.c4
                  have hls := ho.ls
                  have hln := ho.ln
                  have hlc := ho.lc
                  have hapb : 0 < LN → ∀ g o, LA = some ⟨g, o, none⟩ → g ≠ b := fun h0 g o e => by
                    obtain ⟨b', o', e', hb', _⟩ := ho0.ls.at_ h0
                    rw [e] at e'; injection e' with e'; injection e' with e1 _; omega
                  clear ho ho0
                  by_cases h3 : what = 3
                  · subst h3
                    clear c1 c2 c3
                    have HO2 := Lib.hid (HO.out.trans (loadG_out (W := W') (xs := xs) hok.inh gg.hm.len))
                    go_wp2_with fail
                    refine (GuLoad_at q S p L hp b 40 W' LA LN LC xs _ gg hls hln hlc hapb).mono ?_; rintro e w3 ⟨rfl, hc3, g3⟩
                    clear c0 c4 hls
                    have hcw : Chg [] w w3 := hc.trans hc3 (by intro i hi hm; simp at hm; omega)
                    have hw3 := hw.chg hc3 (by simp) (by simpa using hgb)
                    go_wp2_with fail
                    go_roundw
                    case rel => exact ⟨k + 1, _, by omega, by go_num, hcw, g3, HO2.out, hw3⟩
                    case measure => simp [intOf]; omega
                  · have e3 : (what == 3) = false := by simp [h3]
                    clear h3 c4 hls hln hlc hapb
                    have hset := GuSet_at q S p L hp b 40 W' f i x wr.drew (gg.self (Chg.refl [] wr).drew)
                    have HO2 := Lib.hid (HO.out.trans (setG_out (n := 40) (W := W') hok.inh f i x))
                    go_wp2_with fail
                    refine wp_region_still_tail 16 (by kernel_rfl) (by kernel_rfl) ?_
                    simp only [List.take_succ_cons, List.take_zero, List.drop_succ_cons, List.drop_zero]
                    change wpStill _ _ (World.drew _) _ _ _
                    iterate 16 still_step
                    refine wpStill_nil ?_
                    change wpList _ _ _ _ _ (World.drew wr)
                    go_wp2_with fail
                    refine hset.mono ?_; rintro e w3 ⟨rfl, hc3, g3⟩
                    clear hset c0 c1 c2 c3
                    have hcw : Chg [] w w3 := ((hc.trans (Chg.refl [] wr).drew (by simp)).trans hc3 (by intro i hi hm; simp at hm; omega))
                    have hw3 := (hw.chg ((Chg.refl [] wr).drew) (by simp) (by simp)).chg hc3 (by simp) (by simpa using hgb)
                    go_wp2_with fail
                    go_roundw
                    case rel => exact ⟨k + 1, _, by omega, by go_num, hcw, g3, HO2.out, hw3⟩
                    case measure => simp [intOf]; omega
                · obtain rfl : k = m := by omega
                  clear hlt hk
                  go_wp2_with fail
                  go_loopw [15] (fun i w' => ∃ (k : Nat), k ≤ 40 ∧ i = .int .i64 k ∧ Chg [] w w' ∧ GuIn w' q S p L hp b 40 W' ∧ WasAt w' g b W 40 cs) (fun i _ => 40 - (intOf i).toNat)
                  case atStart => exact ⟨0, by omega, rfl, hc, gg, hw⟩
                  case round =>
                    clear hc gg hw
                    obtain ⟨k, hk, rfl, hc, gg, hw⟩ := hrel
                    by_cases hlt : k < 40
                    · obtain ⟨A5, c5, d5, s5, _⟩ := hw.at_ k hlt
                      have d5' : wr.cell? ⟨g, k, none⟩ = some (.slice A5 8 c5) := by rw [hw.bk.cell]; exact d5
                      clear d5
                      cases hcon : L.contains (k : Int) with
                      | true =>
                        have hsome : (locO L k).isSome = true := by rw [locO_some]; exact hcon
                        have hguest := GGuest_is S p L k ((locO L k).getD 0) true _ gg.mp (by omega) rfl hsome
                        generalize (locO L k).getD 0 = y at *
                        clear hcon hsome d5'
                        go_wp2_with fail
                        refine hguest.mono ?_; rintro e w6 ⟨rfl, hc6⟩
                        clear hguest
                        have g6 := gg.self hc6
                        have hw6 := hw.chg hc6 (by simp) (by simp)
                        have hcw := hc.trans hc6 (by simp)
                        clear hc gg hw hc6 s5
                        go_wp2_with fail
                        go_quiet (fail)
                        go_wp2_with fail
                        go_roundw
                        case rel => exact ⟨k + 1, by omega, by go_num, hcw.drewN _, g6.self ((Chg.refl [] w6).drewN _), hw6.chg ((Chg.refl [] w6).drewN _) (by simp) (by simp)⟩
                        case measure => simp [intOf]; omega
                      | false =>
                        have hsome : (locO L k).isSome = false := by rw [locO_some]; exact hcon
                        have hguest := GGuest_is S p L k ((locO L k).getD 0) false _ gg.mp (by omega) rfl hsome
                        have hfr : frameOf W' k = frameOf W k := HO.out.frame (HO.out.1.symm.trans gg.hm.len) hlt (fun hm => by rw [List.contains_iff_mem.2 hm] at hcon; cases hcon)
                        have HFR := Lib.hid hfr
                        have HFL := Lib.hid (frameOf_len gg.hm.len hlt)
                        generalize (locO L k).getD 0 = y at *
                        clear hcon hsome hfr
                        go_wp2_with fail
                        refine hguest.mono ?_; rintro e w6 ⟨rfl, hc6⟩
                        clear hguest
                        have g6 := gg.self hc6
                        have hw6 := hw.chg hc6 (by simp) (by simp)
                        have hcw := hc.trans hc6 (by simp)
                        have s6 := s5.chg hc6 (by simp)
                        have d6 : w6.cell? ⟨g, k, none⟩ = some (.slice A5 8 c5) := (hc6.cell (p := ⟨g, k, none⟩) hw.bk.lt (by simp)).trans d5'
                        have hg6 : g < w6.heap.size := hw6.bk.lt
                        have hm6 := g6.hm
                        clear hc gg hw hc6 s5 d5'
                        go_wp2_with fail
                        have hxx : eqL (frameOf W' k) (frameOf W k) = true := by rw [HFR.out]; exact eqL_self _
                        go_region_held3 (fun w' => w'.cell? ⟨g, k, none⟩ = some (.slice A5 8 c5))
                          (first
                            | exact d6
                            | (rw [hc7.cell (p := ⟨g, k, none⟩) hg6 (by simp)]; exact d6)
                            | go_keep)
                          ((first
                            | (go_at_call 28; refine (Frame_yes hp b 40 W' k _ (hm6.chg (Chg.refl [] w6).drew (by simp) (by simp)) hlt).mono ?_; rintro e w7 ⟨rfl, hc7, _, hb7⟩)
                            | (go_at_call 25; refine (SameWords_any _ A5 8 8 8 c5 _ _ _ (SlU.of_blk hb7 HFL.out) ((s6.chg ((Chg.refl [] w6).drew) (by simp)).chg hc7 (by simp)) (by omega) (by omega)).mono ?_; rintro e w8 ⟨rfl, q8, rfl⟩)))
                        have hc68 : Chg [] w6 (w7.drewN q8) := ((Chg.refl [] w6).drew.trans hc7 (by simp)).drewN q8
                        have g8 := g6.self hc68
                        have hw8 := hw6.chg hc68 (by simp) (by simp)
                        have hcw8 := hcw.trans hc68 (by simp)
                        clear g6 hw6 hcw s6 d6 hm6 hc7 hb7 hc68
                        go_wp2_with fail
                        go_roundw
                        case rel => exact ⟨k + 1, by omega, by go_num, hcw8, g8, hw8⟩
                        case measure => simp [intOf]; omega
                    · go_wp2_with fail
                      go_ret
                      exact ⟨rfl, hc⟩
  · go_wp2_with fail
    refine (GNew_no A L.length c L 40 _ (h.chg hca) hok).mono ?_; rintro e w3 ⟨rfl, hc3⟩
    go_wp2_with fail
    go_ret
    exact ⟨rfl, hca.trans hc3 (by simp)⟩

end Go.Proofs.Ytepbknndemlbcaa
