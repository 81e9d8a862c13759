/-
  GuestPlays: the walk.
-/
import Derived.Test.YtepbknndemlbcaaLawGuestSets
namespace Go.Proofs.Ytepbknndemlbcaa
open Go.RowKit Go.Maps

theorem blk5 {w : World} {g : Nat} {t : TypeId} {x0 x1 x2 x3 x4 : Value} (h : Blk w g t #[x0, x1, x2, x3, x4]) : w.cell? ⟨g, 0, none⟩ = some x0 ∧ w.cell? ⟨g, 1, none⟩ = some x1 ∧ w.cell? ⟨g, 2, none⟩ = some x2 ∧ w.cell? ⟨g, 3, none⟩ = some x3 ∧ w.cell? ⟨g, 4, none⟩ = some x4 :=
  ⟨h.cell 0, h.cell 1, h.cell 2, h.cell 3, h.cell 4⟩

set_option maxRecDepth 100000 in
set_option maxHeartbeats 16000000 in
theorem GuestPlays_walk (fi : Int) (A : Option Addr) (n c : Nat) (L : List Int) (B : Option Addr) (m d : Nat) (w : World) (hfi : -9223372036854775808 ≤ fi ∧ fi ≤ 9223372036854775807) (h : SlK .i64 w A n L) (hop : SlOp w B m) :
    Calls Try.prog 3 #[.int .i64 fi, .slice A n c, .slice B m d] w fun e w' => e = .returned (.bool true) ∧ Chg [] w w' := by
  have hl := h.le
  have hlen := h.len
  have hm := hop.le
  subst hlen
  go_enter Try.func3, Try.ntmps3
  go_wp2_with fail
  refine (Guhead_any _).mono ?_; rintro e w1 ⟨rfl, hc1⟩
  go_wp2_with fail
  refine (Great7_any B m d _ (hop.chg hc1)).mono ?_; rintro e w' ⟨⟨gr, rfl⟩, rfl⟩
  cases gr with
  | true =>
    go_wp2_with fail
    go_ret
    exact ⟨rfl, hc1⟩
  | false =>
    by_cases hbig : 900 < L.length
    · go_wp2_with fail
      go_ret
      exact ⟨rfl, hc1⟩
    · by_cases hbad : fi < 1 ∨ 256 < fi
      · go_wp2_with fail
        refine (New_no fi _ hbad).mono ?_; rintro e w' ⟨rfl, rfl⟩
        go_wp2_with fail
        refine (RNew_no fi _ hbad).mono ?_; rintro e w' ⟨rfl, rfl⟩
        clear hbad
        go_wp2_with fail
        go_ret
        exact ⟨rfl, hc1⟩
      · obtain ⟨fr, rfl⟩ := Int.eq_ofNat_of_zero_le (show 0 ≤ fi by omega)
        have hf1 : 1 ≤ fr ∧ fr ≤ 256 := by omega
        clear hbad hfi
        go_wp2_with fail
        refine (New_at fr _ hf1.1 hf1.2).mono ?_; rintro e w2 ⟨hp, b, rfl, hc2, hm2, hh, hb⟩
        go_wp2_with fail
        refine (RNew_at fr _ hf1.1 hf1.2).mono ?_; rintro e w3 ⟨hp', b', rfl, hc3, hr3, hh', hb'⟩
        have hm3 := hm2.chg hc3 (by simp) (by simp)
        have hca := (hc1.trans hc2 (by simp)).trans hc3 (by simp)
        have hbw : w.heap.size ≤ b ∧ w.heap.size ≤ b' ∧ b < b' ∧ hp < b' ∧ b < hp' ∧ hp < hp' := by
          have := hc1.size; have := hc2.size; have := hm2.ws.lt; have := hm2.st.lt; omega
        clear hm2 hc1 hc2 hc3 hh hb hh' hb'
        by_cases hok : OkL L fr
        · have hn64 : L.length ≤ 64 := hok.2.1
          go_wp2_with fail
          refine (GNew_ok A L.length c L fr _ (h.chg hca) hok).mono ?_; rintro e w4 ⟨p, S, rfl, hc4, h4, hS⟩
          have hcb : Chg [] w w4 := hca.trans hc4 (by simp)
          go_wp2_with fail
          refine (RGNew_ok A L.length c L fr _ (h.chg hcb) hok).mono ?_; rintro e w5 ⟨p', S', rfl, hc5, h5, hS'⟩
          have hcc : Chg [] w w5 := hcb.trans hc5 (by simp)
          have h45 := h4.self hc5
          have hm5 := (hm3.chg hc4 (by simp) (by simp)).chg hc5 (by simp) (by simp)
          have hr5 := (hr3.chg hc4 (by simp) (by simp)).chg hc5 (by simp) (by simp)
          have hz1 := hm3.ws.lt; have hz2 := hm3.st.lt; have hz3 := hr3.ws.lt; have hz4 := hr3.st.lt
          have hz5 := hc4.size; have hz6 := hc5.size
          have hSb : ∀ i ∈ S, i ∉ [b'] := fun i hi hm => by rw [List.mem_singleton] at hm; have := hS i hi; omega
          have hSb' : ∀ i ∈ S', i ∉ [b] := fun i hi hm => by rw [List.mem_singleton] at hm; have := hS' i hi; omega
          clear hca hcb h4 hm3 hr3 hc4 hc5 hS hS'
          go_wp2_with fail
          refine (GuNew_at p hp _).mono ?_; rintro e w6 ⟨q, rfl, hc6, h6, hq⟩
          have hcd : Chg [] w w6 := hcc.trans hc6 (by simp)
          have h56 := h5.self hc6
          have h46 := h45.self hc6
          have hm6 := hm5.chg hc6 (by simp) (by simp)
          have hr6 := hr5.chg hc6 (by simp) (by simp)
          have hz7 := hc6.size
          have hqb : q ≠ b' := by omega
          clear hcc h5 h45 hm5 hr5 hc6 hq
          go_wp2_with fail
          refine (RGuNew_at p' hp' _).mono ?_; rintro e w7 ⟨q', rfl, hc7, h7, hq⟩
          have hce : Chg [] w w7 := hcd.trans hc7 (by simp)
          have hqb' : q' ≠ b := by omega
          have g7 : GuIn w7 q S p L hp b fr (zeros (8 * fr)) := ⟨hc7.blk h6 (by simp), h46.self hc7, hm6.chg hc7 (by simp) (by simp), hok.inh⟩
          have r7 : RGuIn w7 q' S' p' L hp' b' fr (zeros (8 * fr)) := ⟨h7, h56.self hc7, hr6.chg hc7 (by simp) (by simp), hok.inh⟩
          clear hcd hc7 h6 h7 h46 h56 hm6 hr6 hq hz1 hz2 hz3 hz4 hz5 hz6 hz7
          have hGo : ∀ (w w' : World) (W : List Int), GuIn w q S p L hp b fr W → Chg [b'] w w' → GuIn w' q S p L hp b fr W := fun w w' W g hc => g.other hc (by simpa using hqb) hSb (by simp; omega) (by simp; omega)
          have hRo : ∀ (w w' : World) (W : List Int), RGuIn w q' S' p' L hp' b' fr W → Chg [b] w w' → RGuIn w' q' S' p' L hp' b' fr W := fun w w' W g hc => g.other hc (by simpa using hqb') hSb' (by simp; omega) (by simp; omega)
          clear hqb hqb' hSb hSb'
          generalize zeros (8 * fr) = W at *
          go_wp2_with fail
          go_loopw [14] (fun i w' => ∃ (k : Nat) (W : List Int), k ≤ m ∧ i = .int .i64 k ∧ Chg [] w w' ∧ GuIn w' q S p L hp b fr W ∧ RGuIn w' q' S' p' L hp' b' fr W) (fun i _ => m - (intOf i).toNat)
          case atStart => exact ⟨0, W, by omega, rfl, hce, g7, r7⟩
          case round =>
            clear hce g7 r7 W
            obtain ⟨k, W, hk, rfl, hc, g, r⟩ := hrel
            by_cases hlt : k < m
            · obtain ⟨ob, off, rfl, what, f, i, v, LA, LN, LC, xs, ho0⟩ := hop.get hlt
              have ho := ho0.chg hc (World.block_lt_of_cell? _ _ ho0.c0)
              have c0 := ho.c0; have c1 := ho.c1; have c2 := ho.c2; have c3 := ho.c3; have c4 := ho.c4
              have hcA : Chg [] wr (wr.alloc (.cells #[.int .i64 what, .int .i64 f, .int .i64 i, .int .u64 v, .slice LA LN LC] 41)) := (Chg.refl _ _).alloc _
              have hA := Blk.new wr 41 #[.int .i64 what, .int .i64 f, .int .i64 i, .int .u64 v, .slice LA LN LC]
              have hzb : b < wr.heap.size ∧ b' < wr.heap.size := ⟨g.hm.ws.lt, r.hm.ws.lt⟩
              have gA := g.self hcA
              have rA := r.self hcA
              have hcw := hc.trans hcA (by simp)
              have hln := ho0.ln
              have hlc := ho0.lc
              have hls := ho0.ls
              have hap : 0 < LN → ∀ g o, LA = some ⟨g, o, none⟩ → g < w.heap.size := fun h0 g o e => by
                obtain ⟨b', o', e', hb', _⟩ := hls.at_ h0
                rw [e] at e'; injection e' with e'; injection e' with e1 _; omega
              clear hcA g r hc ho ho0
              by_cases h3 : what = 3
              · subst h3
                go_wp2_with fail
                clear c0 c1 c2 c3 c4
                have hlsA := hls.chg hcw (by simp)
                generalize wr.heap.size = z at *
                refine (GuLoad_at q S p L hp b fr W LA LN LC xs _ gA hlsA hln hlc (fun h0 g o e => by have := hap h0 g o e; omega)).mono ?_; rintro e w3 ⟨rfl, hc3, g3⟩
                have hb3 := hc3.blk hA (by simp; omega)
                have r3 := hRo _ _ _ rA hc3
                have hcw3 : Chg [] w w3 := hcw.trans hc3 (by intro q hq hm; simp at hm; omega)
                have hls3 := hls.chg hcw3 (by simp)
                obtain ⟨d0, d1, d2, d3, d4⟩ := blk5 hb3
                clear hc3 gA rA hA hlsA hcw d0 d1 d2 d3
                go_wp2_with fail
                refine (RGuLoad_at q' S' p' L hp' b' fr W LA LN LC xs _ r3 hls3 hln (fun h0 g o e => by have := hap h0 g o e; omega)).mono ?_; rintro e w4 ⟨rfl, hc4, r4⟩
                have g4 := hGo _ _ _ g3 hc4
                have hcw4 : Chg [] w w4 := hcw3.trans hc4 (by intro q hq hm; simp at hm; omega)
                clear hc4 g3 r3 hb3 hls3 hcw3 d4 hls hap
                generalize loadG W L xs = W3 at *
                have hxx : (loadB L LN == loadB L LN) = true := by simp
                go_wp2_with fail
                refine (GuAll_at q S p L hp b fr _ _ g4).mono ?_; rintro e w5 ⟨A5, c5, rfl, hc5, ho5, _⟩
                go_wp2_with fail
                refine (RGuAll_at q' S' p' L hp' b' fr _ _ (r4.self hc5)).mono ?_; rintro e w6 ⟨A6, c6, rfl, hc6, ho6, _⟩
                go_wp2_with fail
                refine (SameWords_any A5 A6 _ _ c5 c6 _ _ _ (ho5.slu.chg hc6 (by simp)) ho6.slu (by omega) (by omega)).mono ?_; rintro e w7 ⟨rfl, qq, rfl⟩
                rw [eqL_self]
                have hc47 : Chg [] w4 (w6.drewN qq) := (hc5.trans hc6 (by simp)).drewN qq
                have g7 := g4.self hc47
                have r7 := r4.self hc47
                have hcw7 := hcw4.trans hc47 (by simp)
                clear g4 r4 hcw4 hc5 hc6 ho5 ho6 hc47
                go_wp2_with fail
                go_roundw
                case rel => exact ⟨k + 1, _, by omega, by go_num, hcw7, g7, r7⟩
                case measure => simp [intOf]; omega
              · have e3 : (what == 3) = false := by simp [h3]
                clear h3
                by_cases h4 : what = 4
                · subst h4
                  go_wp2_with fail
                  clear c0 c1 c2 c3 c4
                  obtain ⟨d0, d1, d2, d3, d4⟩ := blk5 hA
                  clear d0 d3 d4
                  generalize wr.heap.size = z at *
                  refine (GuGet_at q S p L hp b fr W f i _ gA).mono ?_; rintro e w' ⟨rfl, rfl⟩
                  go_wp2_with fail
                  refine (RGuGet_at q' S' p' L hp' b' fr W f i _ rA).mono ?_; rintro e w' ⟨rfl, rfl⟩
                  have g4 := gA; have r4 := rA; have hcw4 := hcw
                  clear hA gA rA hcw hls hap e3 d1 d2
                  generalize hw4 : wr.alloc (.cells #[.int .i64 4, .int .i64 f, .int .i64 i, .int .u64 v, .slice LA LN LC] 41) = w4 at *
                  have HW := Lib.hid hw4; clear hw4
                  have hx1 : (getG fr W L f i == getG fr W L f i) = true := by simp
                  have hx2 : (hasG fr L f i == hasG fr L f i) = true := by simp
                  generalize getG fr W L f i = y at *
                  generalize hasG fr L f i = t at *
                  go_wp2_with fail
                  refine (GuAll_at q S p L hp b fr _ _ g4).mono ?_; rintro e w5 ⟨A5, c5, rfl, hc5, ho5, _⟩
                  go_wp2_with fail
                  refine (RGuAll_at q' S' p' L hp' b' fr _ _ (r4.self hc5)).mono ?_; rintro e w6 ⟨A6, c6, rfl, hc6, ho6, _⟩
                  go_wp2_with fail
                  refine (SameWords_any A5 A6 _ _ c5 c6 _ _ _ (ho5.slu.chg hc6 (by simp)) ho6.slu (by omega) (by omega)).mono ?_; rintro e w7 ⟨rfl, qq, rfl⟩
                  rw [eqL_self]
                  have hc47 : Chg [] w4 (w6.drewN qq) := (hc5.trans hc6 (by simp)).drewN qq
                  have g7 := g4.self hc47
                  have r7 := r4.self hc47
                  have hcw7 := hcw4.trans hc47 (by simp)
                  clear g4 r4 hcw4 hc5 hc6 ho5 ho6 hc47
                  go_wp2_with fail
                  go_roundw
                  case rel => exact ⟨k + 1, _, by omega, by go_num, hcw7, g7, r7⟩
                  case measure => simp [intOf]; omega
                · have e4 : (what == 4) = false := by simp [h4]
                  clear h4
                  by_cases h5 : what = 5
                  · subst h5
                    go_wp2_with fail
                    clear c0 c1 c2 c3 c4
                    generalize wr.heap.size = z at *
                    refine (Set_at hp b fr W f i v _ gA.hm).mono ?_; rintro e w3 ⟨rfl, hc3, hm3⟩
                    have g3 := gA.write hc3 hm3
                    have hb3 := hc3.blk hA (by simp; omega)
                    have r3 := hRo _ _ _ rA hc3
                    have hcw3 : Chg [] w w3 := hcw.trans hc3 (by intro q hq hm; simp at hm; omega)
                    obtain ⟨d0, d1, d2, d3, d4⟩ := blk5 hb3
                    clear hc3 gA rA hA hcw hm3 d0 d4
                    go_wp2_with fail
                    refine (RSet_at hp' b' fr W f i v _ r3.hm).mono ?_; rintro e w4 ⟨rfl, hc4, hr4⟩
                    have r4 := r3.write hc4 hr4
                    have g4 := hGo _ _ _ g3 hc4
                    have hcw4 : Chg [] w w4 := hcw3.trans hc4 (by intro q hq hm; simp at hm; omega)
                    clear hc4 g3 r3 hb3 hcw3 d1 d2 d3 hls hap hr4
                    generalize setW fr W f i v = W3 at *
                    have hxx : (hasW fr f i == hasW fr f i) = true := by simp
                    generalize hasW fr f i = t at *
                    go_wp2_with fail
                    refine (GuAll_at q S p L hp b fr _ _ g4).mono ?_; rintro e w5 ⟨A5, c5, rfl, hc5, ho5, _⟩
                    go_wp2_with fail
                    refine (RGuAll_at q' S' p' L hp' b' fr _ _ (r4.self hc5)).mono ?_; rintro e w6 ⟨A6, c6, rfl, hc6, ho6, _⟩
                    go_wp2_with fail
                    refine (SameWords_any A5 A6 _ _ c5 c6 _ _ _ (ho5.slu.chg hc6 (by simp)) ho6.slu (by omega) (by omega)).mono ?_; rintro e w7 ⟨rfl, qq, rfl⟩
                    rw [eqL_self]
                    have hc47 : Chg [] w4 (w6.drewN qq) := (hc5.trans hc6 (by simp)).drewN qq
                    have g7 := g4.self hc47
                    have r7 := r4.self hc47
                    have hcw7 := hcw4.trans hc47 (by simp)
                    clear g4 r4 hcw4 hc5 hc6 ho5 ho6 hc47
                    go_wp2_with fail
                    go_roundw
                    case rel => exact ⟨k + 1, _, by omega, by go_num, hcw7, g7, r7⟩
                    case measure => simp [intOf]; omega
                  · have e5 : (what == 5) = false := by simp [h5]
                    clear h5
                    go_wp2_with fail
                    clear c0 c1 c2 c3 c4
                    generalize wr.heap.size = z at *
                    refine (GuSet_at q S p L hp b fr W f i v _ gA).mono ?_; rintro e w3 ⟨rfl, hc3, g3⟩
                    have hb3 := hc3.blk hA (by simp; omega)
                    have r3 := hRo _ _ _ rA hc3
                    have hcw3 : Chg [] w w3 := hcw.trans hc3 (by intro q hq hm; simp at hm; omega)
                    obtain ⟨d0, d1, d2, d3, d4⟩ := blk5 hb3
                    clear hc3 gA rA hA hcw d0 d4
                    go_wp2_with fail
                    refine (RGuSet_at q' S' p' L hp' b' fr W f i v _ r3).mono ?_; rintro e w4 ⟨rfl, hc4, r4⟩
                    have g4 := hGo _ _ _ g3 hc4
                    have hcw4 : Chg [] w w4 := hcw3.trans hc4 (by intro q hq hm; simp at hm; omega)
                    clear hc4 g3 r3 hb3 hcw3 d1 d2 d3 hls hap
                    generalize setG fr W L f i v = W3 at *
                    have hxx : (hasG fr L f i == hasG fr L f i) = true := by simp
                    generalize hasG fr L f i = t at *
                    go_wp2_with fail
                    refine (GuAll_at q S p L hp b fr _ _ g4).mono ?_; rintro e w5 ⟨A5, c5, rfl, hc5, ho5, _⟩
                    go_wp2_with fail
                    refine (RGuAll_at q' S' p' L hp' b' fr _ _ (r4.self hc5)).mono ?_; rintro e w6 ⟨A6, c6, rfl, hc6, ho6, _⟩
                    go_wp2_with fail
                    refine (SameWords_any A5 A6 _ _ c5 c6 _ _ _ (ho5.slu.chg hc6 (by simp)) ho6.slu (by omega) (by omega)).mono ?_; rintro e w7 ⟨rfl, qq, rfl⟩
                    rw [eqL_self]
                    have hc47 : Chg [] w4 (w6.drewN qq) := (hc5.trans hc6 (by simp)).drewN qq
                    have g7 := g4.self hc47
                    have r7 := r4.self hc47
                    have hcw7 := hcw4.trans hc47 (by simp)
                    clear g4 r4 hcw4 hc5 hc6 ho5 ho6 hc47
                    go_wp2_with fail
                    go_roundw
                    case rel => exact ⟨k + 1, _, by omega, by go_num, hcw7, g7, r7⟩
                    case measure => simp [intOf]; omega
            · obtain rfl : k = m := by omega
              clear hlt hk
              go_wp2_with fail
              go_loopw [24] (fun i w' => ∃ (j : Nat), j ≤ fr ∧ i = .int .i64 j ∧ Chg [] w w' ∧ GuIn w' q S p L hp b fr W ∧ RGuIn w' q' S' p' L hp' b' fr W) (fun i _ => (fr - intOf i).toNat)
              case atStart => exact ⟨0, by omega, rfl, hc, g, r⟩
              case round =>
                clear hc g r
                obtain ⟨j, hj, rfl, hc, g, r⟩ := hrel
                by_cases hlt : j < fr
                · go_wp2_with fail
                  refine (Frame_at hp b fr W j _ g.hm).mono ?_; rintro e w5 ⟨A5, c5, rfl, hc5, hs5, hA5, _⟩
                  go_wp2_with fail
                  refine (RFrame_at hp' b' fr W j _ (r.hm.chg hc5 (by simp) (by simp))).mono ?_; rintro e w6 ⟨A6, c6, rfl, hc6, hs6, hA6, _⟩
                  have hfw := frameW_le fr W j
                  go_wp2_with fail
                  refine (SameWords_any A5 A6 _ _ c5 c6 _ _ _ (hs5.chg hc6 (by simp)) hs6 (by omega) (by omega)).mono ?_; rintro e w7 ⟨rfl, qq, rfl⟩
                  rw [eqL_self]
                  have hc47 := (hc5.trans hc6 (by simp)).drewN qq
                  have g7 := g.self hc47
                  have r7 := r.self hc47
                  have hcw := hc.trans hc47 (by simp)
                  clear hc g r hc5 hc6 hs5 hs6 hA5 hA6 hc47
                  go_wp2_with fail
                  go_roundw
                  case rel => exact ⟨j + 1, by omega, by go_num, hcw, g7, r7⟩
                  case measure => simp [intOf]; omega
                · go_wp2_with fail
                  refine (GuFrames_at q S p L hp b fr W _ g).mono ?_; rintro e w' ⟨rfl, rfl⟩
                  go_wp2_with fail
                  refine (RGuFrames_at q' S' p' L hp' b' fr W _ r).mono ?_; rintro e w' ⟨rfl, rfl⟩
                  have hee : ((L.length : Int) == (L.length : Int)) = true := by simp
                  go_wp2_with fail
                  go_ret
                  exact ⟨rfl, hc⟩
        · go_wp2_with fail
          refine (GNew_no A L.length c L fr _ (h.chg hca) hok).mono ?_; rintro e w4 ⟨rfl, hc4⟩
          have hcb : Chg [] w w4 := hca.trans hc4 (by simp)
          go_wp2_with fail
          refine (RGNew_no A L.length c L fr _ (h.chg hcb) hok).mono ?_; rintro e w5 ⟨rfl, hc5⟩
          go_wp2_with fail
          go_ret
          exact ⟨rfl, hcb.trans hc5 (by simp)⟩

end Go.Proofs.Ytepbknndemlbcaa
