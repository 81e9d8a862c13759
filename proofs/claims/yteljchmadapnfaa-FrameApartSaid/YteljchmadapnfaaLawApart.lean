/-
  FrameApart: the walk.
-/
import Derived.Test.YteljchmadapnfaaLawSame
namespace Go.Proofs.Yteljchmadapnfaa
open Go.RowKit

theorem take_frame (L : List Int) (k : Nat) : L.take (8 * (k + 1)) = L.take (8 * k) ++ frameOf L k := by
  rw [frameOf, show 8 * (k + 1) = 8 * k + 8 from by omega, List.take_add, Nat.mul_comm 8 k]

set_option maxRecDepth 100000 in
set_option maxHeartbeats 4000000 in
theorem FrameApart_walk (A : Option Addr) (n c : Nat) (f i v : Int) (w : World) (hl : SlOp w A n) (hf : 0 ≤ f ∧ f ≤ 255) (hi : 0 ≤ i ∧ i ≤ 255) (_hv : 0 ≤ v ∧ v ≤ 18446744073709551615) :
    Calls Try.prog 7 #[.slice A n c, .int .u8 f, .int .u8 i, .int .u64 v] w fun e w' => e = .returned (.bool true) ∧ Chg [] w w' := by
  clear _hv
  obtain ⟨a, ha⟩ := Int.eq_ofNat_of_zero_le (show 0 ≤ f % 16 by omega)
  obtain ⟨b, hb⟩ := Int.eq_ofNat_of_zero_le (show 0 ≤ i % 8 by omega)
  have ha16 : a < 16 := by omega
  have hb8 : b < 8 := by omega
  obtain ⟨i0, hi0, hz0, hz1, hz2⟩ := info_parts u64_info
  have hn := hl.le
  go_enter Try.func7, Try.ntmps7
  go_wp2_with fail
  refine (head_any _).mono ?_; rintro e w1 ⟨rfl, hc1⟩
  go_wp2_with fail
  refine (New_at 16 _ (by omega) (by omega)).mono ?_; rintro e w2 ⟨p, d, rfl, hc2, hm4, hp, hd⟩
  have hc := hc1.trans hc2 (by simp)
  have hpd : w.heap.size ≤ p ∧ w.heap.size ≤ d := by have := hc1.size; omega
  have hl4 := hl.chg hc
  clear hp hd hc1 hc2
  go_wp2_with fail
  refine (Great_any A n c _ hl4).mono ?_; rintro e w' ⟨⟨g, rfl⟩, rfl⟩
  cases g with
  | true =>
    go_wp2_with fail
    go_ret
    exact ⟨rfl, hc⟩
  | false =>
    go_wp2_with fail
    go_loopw [11] (fun i w' => ∃ (k : Nat) (L : List Int), k ≤ n ∧ i = .int .i64 k ∧ Chg [] w w' ∧ MemAt w' p d 16 L) (fun i _ => n - (intOf i).toNat)
    case atStart => exact ⟨0, _, by omega, rfl, hc, hm4⟩
    case round =>
      obtain ⟨k, L, hk, rfl, hck, hmk⟩ := hrel
      clear hc hm4 hl4
      by_cases hlt2 : k < n
      · obtain ⟨ob, off, rfl, what, f', i', v', LA, LN, LC, xs, ho0⟩ := hl.get hlt2
        have hop := ho0.chg hck (World.block_lt_of_cell? _ _ ho0.c0)
        have c1 := hop.c1; have c2 := hop.c2; have c3 := hop.c3
        clear hop ho0
        go_wp2_with fail
        refine wp_region_still_tail 16 (by kernel_rfl) (by kernel_rfl) ?_
        simp only [List.take_succ_cons, List.take_zero, List.drop_succ_cons, List.drop_zero]
        change wpStill _ _ (World.drew _) _ _ _
        repeat still_step
        refine wpStill_nil ?_
        change wpList _ _ _ _ _ (World.drew _)
        go_wp2_with fail
        refine (Set_at p d 16 L f' i' v' _ (hmk.chg (Chg.refl [] wr).drew (by simp) (by simp))).mono ?_; rintro e w5 ⟨rfl, hc5, hm5⟩
        have hcw : Chg [] w w5 := hck.drew.trans hc5 (by intro q hq hm; simp at hm; omega)
        clear hmk hck hc5 c1 c2 c3
        go_wp2_with fail
        go_roundw
        case rel => exact ⟨k + 1, _, by omega, by go_num, hcw, hm5⟩
        case measure => simp [intOf]; omega
      · obtain rfl : k = n := by omega
        have hlen := hmk.len
        clear hlt2 hk
        have hpd2 : p < wr.heap.size ∧ d < wr.heap.size := ⟨hmk.st.lt, hmk.ws.lt⟩
        have hww : w.heap.size ≤ wr.heap.size := hck.size
        generalize hB0 : wr.heap.size = B at *
        have hB1 : B ≤ wr.heap.size := Nat.le_of_eq hB0.symm
        clear hB0
        go_wp2_with fail
        go_loopw [12, 13] (fun x i w' => ∃ k : Nat, k ≤ 16 ∧ i = .int .i64 k ∧ Chg [] w w' ∧ MemAt w' p d 16 L ∧ w'.ownsRow B 29 1 x (8 * k) ((L.take (8 * k)).map (Value.int .u64)) ∧ B ≤ w'.heap.size) (fun _ i _ => 16 - (intOf i).toNat)
        case atStart => exact ⟨0, by omega, rfl, hck, hmk, by simpa using World.ownsRow_nil wr B _ 1, hB1⟩
        case round =>
          clear hck hmk hB1
          obtain ⟨k, hk, rfl, hck, hmk, hown, hBs⟩ := hrel
          by_cases hlt3 : k < 16
          · go_wp2_with fail
            refine (Frame_yes p d 16 L k _ hmk hlt3).mono ?_; rintro e w5 ⟨rfl, hc5, _, hb5⟩
            have hfl := frameOf_len hlen hlt3
            have hsrc := (SlU.of_blk hb5 hfl).src (c := 8) (by simp)
            have hown5 := own_chg hown hc5 (by simp)
            have hcw5 := hck.trans hc5 (by simp)
            have hm5 := hmk.chg hc5 (by simp) (by simp)
            have hB5 : B ≤ w5.heap.size := Nat.le_trans hBs hc5.size
            clear hb5 hown hck hmk hc5 hBs
            go_wp2_with (at_builtin
                         refine wpList_append_src rfl (.tmp 57) (.tmp 60) 30 rfl B 29 i0 _ 1 8 Try.underlying30 hi0 hz0 hz1 hz2 rfl (by omega) _ (8 * k) _ rfl hown5 _ 8 _ _ rfl hsrc (by simp [maxLen]; omega) (by omega) hB5 ?_
                         intro v6 w6 hown6 hg6 hat6)
            have hge : ∀ q, q ∈ Option.toList (Value.ownBlock u12) → B ≤ q := fun q hq => by
              obtain ⟨A', c', e', hz', hA'⟩ := own_form hown5
              subst e'
              cases A' with
              | none => simp [Value.ownBlock] at hq
              | some ad => obtain ⟨g', rfl, hg', _⟩ := hA' _ rfl; simp [Value.ownBlock] at hq; omega
            have hcw6 : Chg [] w w6 := hcw5.trans hg6 (by intro q hq hm; have := hge q hm; omega)
            have hm6 := hm5.chg hg6 (fun hm => by have := hge _ hm; omega) (fun hm => by have := hge _ hm; omega)
            have hB6 : B ≤ w6.heap.size := Nat.le_trans hB5 hg6.size
            have hsn : w6.ownsRow B 29 1 v6 (8 * (k + 1)) ((L.take (8 * (k + 1))).map (Value.int .u64)) := by
              rw [take_frame, List.map_append]; exact hown6
            clear hown6 hown5 hcw5 hm5 hg6 hge hat6 hsrc hB5
            go_roundw
            case rel => exact ⟨k + 1, by omega, by go_num, hcw6, hm6, hsn, hB6⟩
            case measure => simp [intOf]; omega
          · obtain rfl : k = 16 := by omega
            obtain ⟨g, cc, cur, rfl, hgB, hgb, _⟩ := own_blk hown (by omega)
            rw [List.take_of_length_le (by omega)] at hown
            have hsl := own_slu hown
            have q1 : (8 * (a : Int) + b) / 8 = a := by omega
            have q2 : (8 * (a : Int) + b) % 8 = b := by omega
            have hwab : hasW 16 a b = true := by simp [hasW]; omega
            have hset : setW 16 L a b v = L.set (a * 8 + b) v := by simp [setW, hwab]
            have hgd : p < g ∧ d < g ∧ w.heap.size ≤ g := by omega
            clear hown hlt3
            go_wp2_with fail
            refine (Set_at p d 16 L a b v _ hmk).mono ?_; rintro e w5 ⟨rfl, hc5, hm5⟩
            rw [hset] at hm5
            have hb5 := hc5.blk hgb (by simp; omega)
            have hs5 := hsl.chg hc5 (by intro b' o' e; injection e with e; injection e with e; simp; omega)
            have hc05 : Chg [] w w5 := hck.trans hc5 (by intro q hq hm; simp at hm; omega)
            obtain ⟨g', o', hgo, _, hr⟩ := hs5.get (k := 8 * a + b) (by omega)
            injection hgo with hgo; injection hgo with e1 e2; subst e1; subst e2
            rw [Nat.zero_add] at hr
            have hfr := hb5.frozen (8 * a + b)
            have hst := hs5.set (8 * a + b) v (by omega)
            rw [Nat.zero_add, show (L.set (8 * a + b) v) = L.set (a * 8 + b) v from by rw [Nat.mul_comm]] at hst
            have hbt := hb5.set_ (8 * a + b) (.int .u64 v)
            have hct : Chg [] w (w5.setCell ⟨g, 8 * a + b, none⟩ (.int .u64 v)) := hc05.setCell (by simp; omega) _
            have hmt : MemAt (w5.setCell ⟨g, 8 * a + b, none⟩ (.int .u64 v)) p d 16 (L.set (a * 8 + b) v) := ⟨hm5.st.far (by simp; omega) _, hm5.ws.far (by simp; omega) _, hm5.len, hm5.pos, hm5.le⟩
            have hlen2 := hmt.len
            have HS := Lib.hid hst; have HB := Lib.hid hbt; have HC := Lib.hid hct; have HM := Lib.hid hmt
            clear hst hbt hct hmt hc5 hck hmk hgb hsl hs5 hb5 hc05 hm5 hset hlen
            generalize L.getD (8 * a + b) 0 = old at *
            generalize L.set (a * 8 + b) v = L2 at *
            go_wp2_with fail
            have hst := HS.out; have hbt := HB.out; have hct := HC.out; have hmt := HM.out
            clear HS HB HC HM hr hfr q1 q2
            generalize w5.setCell ⟨g, 8 * a + b, none⟩ (.int .u64 v) = w6 at *
            have hg6 : g < w6.heap.size := hbt.lt
            have hpd3 : p < w6.heap.size ∧ d < w6.heap.size ∧ w.heap.size ≤ w6.heap.size := ⟨hmt.st.lt, hmt.ws.lt, hct.size⟩
            generalize hC0 : w6.heap.size = C at *
            have hC1 : C ≤ w6.heap.size := Nat.le_of_eq hC0.symm
            clear hC0
            have hlen := hlen2
            go_wp2_with fail
            go_loopw [15, 16] (fun x i w' => ∃ k : Nat, k ≤ 16 ∧ i = .int .i64 k ∧ Chg [] w w' ∧ MemAt w' p d 16 L2 ∧ w'.ownsRow C 29 1 x (8 * k) ((L2.take (8 * k)).map (Value.int .u64)) ∧ C ≤ w'.heap.size ∧ SlU w' (some ⟨g, 0, none⟩) 128 L2) (fun _ i _ => 16 - (intOf i).toNat)
            case atStart => exact ⟨0, by omega, rfl, hct, hmt, by simpa using World.ownsRow_nil w6 C _ 1, hC1, hst⟩
            case round =>
              clear hct hmt hC1 hst hbt
              obtain ⟨k, hk, rfl, hck, hmk, hown, hBs, hsk⟩ := hrel
              by_cases hlt3 : k < 16
              · go_wp2_with fail
                refine (Frame_yes p d 16 L2 k _ hmk hlt3).mono ?_; rintro e w5 ⟨rfl, hc5, _, hb5⟩
                have hfl := frameOf_len hlen hlt3
                have hsrc := (SlU.of_blk hb5 hfl).src (c := 8) (by simp)
                have hown5 := own_chg hown hc5 (by simp)
                have hcw5 := hck.trans hc5 (by simp)
                have hm5 := hmk.chg hc5 (by simp) (by simp)
                have hB5 : C ≤ w5.heap.size := Nat.le_trans hBs hc5.size
                have hs5 := hsk.chg hc5 (by simp)
                clear hb5 hown hck hmk hc5 hBs
                go_wp2_with (at_builtin
                             refine wpList_append_src rfl (.tmp 91) (.tmp 94) 30 rfl C 29 i0 _ 1 8 Try.underlying30 hi0 hz0 hz1 hz2 rfl (by omega) _ (8 * k) _ rfl hown5 _ 8 _ _ rfl hsrc (by simp [maxLen]; omega) (by omega) hB5 ?_
                             intro v6 w6 hown6 hg6 hat6)
                have hge : ∀ q, q ∈ Option.toList (Value.ownBlock u15) → C ≤ q := fun q hq => by
                  obtain ⟨A', c', e', hz', hA'⟩ := own_form hown5
                  subst e'
                  cases A' with
                  | none => simp [Value.ownBlock] at hq
                  | some ad => obtain ⟨g', rfl, hg', _⟩ := hA' _ rfl; simp [Value.ownBlock] at hq; omega
                have hcw6 : Chg [] w w6 := hcw5.trans hg6 (by intro q hq hm; have := hge q hm; omega)
                have hm6 := hm5.chg hg6 (fun hm => by have := hge _ hm; omega) (fun hm => by have := hge _ hm; omega)
                have hB6 : C ≤ w6.heap.size := Nat.le_trans hB5 hg6.size
                have hsn : w6.ownsRow C 29 1 v6 (8 * (k + 1)) ((L2.take (8 * (k + 1))).map (Value.int .u64)) := by
                  rw [take_frame, List.map_append]; exact hown6
                have hs6 := hs5.chg hg6 (fun b' o' e hm => by injection e with e; injection e with e; have := hge _ hm; omega)
                clear hown6 hown5 hcw5 hm5 hg6 hge hat6 hsrc hB5
                go_roundw
                case rel => exact ⟨k + 1, by omega, by go_num, hcw6, hm6, hsn, hB6, hs6⟩
                case measure => simp [intOf]; omega
              · obtain rfl : k = 16 := by omega
                have hf16 := own_form hown
                obtain ⟨A9, c9, rfl, hz9, _⟩ := hf16
                rw [List.take_of_length_le (by omega)] at hown
                have hs9 := own_slu hown
                have hLL : eqL L2 L2 = true := by simp [eqL]
                go_wp2_with fail
                refine (SameWords_any _ A9 128 128 _ c9 L2 L2 _ hsk hs9 (by omega) (by omega)).mono ?_; rintro e w' ⟨rfl, q, rfl⟩
                go_wp2_with fail
                go_ret
                exact ⟨rfl, hck.drewN q⟩

end Go.Proofs.Yteljchmadapnfaa
