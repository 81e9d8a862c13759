/-
  The document's Right, Image, Foreign of conf.
-/
import Derived.Test.YtkggkdjhecagnaaConfR
import Derived.Test.YtkggkdjhecagnaaConfHead
import Derived.Test.YtkggkdjhecagnaaG0
namespace Go.Proofs.Ytkggkdjhecagnaa
open Go.RowKit Go.Maps

set_option maxRecDepth 100000 in
set_option maxHeartbeats 8000000 in
theorem RCRight_at (c : Cf) (A : Option Addr) (n k : Nat) (w : World) (hs : CfIn c A n w) : Calls Try.prog 11 #[.agg (c.cs A n k)] w fun e w' => e = .returned (.bool c.right) ∧ Chg [] w w' := by
  have hno : ¬ c.Ok → c.right = false := Cf.right_no
  have hyes : c.Ok → c.right = true := (Cf.right_iff c).2
  have HB : Hid (c.OkB → c.Ok) := Lib.hid Cf.okB.2
  have HL := Lib.hid hs.sl.len
  have HLW := Lib.hid hs.sl.wf
  have hwf := hs.wf
  have hsl := hs.sl
  have hle := hsl.le
  generalize c.right = R at *
  obtain ⟨h, L, f, m, t, a, r⟩ := c
  have hm64 := hwf.many
  have hf64 := hwf.first
  unfold Cf.cs
  unfold I64 at hm64 hf64
  simp only at *
  have HNO := Lib.hid hno
  have HYES := Lib.hid hyes
  clear hno hyes hs hwf
  by_cases hL : OkL L h
  · have hh := hL.2.2.1
    have hh2 := hL.2.2.2.1
    by_cases hp : 0 ≤ f ∧ 0 ≤ m ∧ f + m ≤ 256
    · obtain ⟨fn, hfn⟩ := Int.eq_ofNat_of_zero_le hp.1
      obtain ⟨mn, hmn⟩ := Int.eq_ofNat_of_zero_le hp.2.1
      have hFN : ∀ W, Calls Try.prog 19 #[.int .i64 f, .int .i64 m] W fun e w' => ∃ p S, e = .returned (.pointer (some ⟨p, 0, none⟩)) ∧ Chg [] W w' ∧ RAt w' S p fn mn (dnk fn mn) ∧ ∀ i ∈ S, W.heap.size ≤ i := fun W => by rw [hfn, hmn]; exact RFNew_at fn mn W (by omega)
      clear hfn hmn
      have hwr : wrap64 (f + m) = f + m := by unfold wrap64; omega
      by_cases hrm : f + m > h
      · have hrd : decide (f + m > h) = true := by simpa using hrm
        go_enter Try.func11, Try.ntmps11
        go_wp2_with fail
        have b1 := Blk.new w 24 #[.int .i64 h, .slice A n k, .int .i64 f, .int .i64 m, .int .i64 t, .int .i64 a, .int .i64 r]
        have hc : Chg [] w (w.alloc (.cells #[.int .i64 h, .slice A n k, .int .i64 f, .int .i64 m, .int .i64 t, .int .i64 a, .int .i64 r] 24)) := (Chg.refl [] w).alloc _
        have hs1 := hsl.chg hc
        refine (RGNew_ok A n k L h _ hs1 hL).mono ?_; rintro e w1 ⟨p, S, rfl, y, _, _⟩
        replace hc := hc.trans y (by simp)
        replace b1 := b1.chg_ y (by simp)
        clear y hs1
        obtain ⟨c0, c1, c2, c3, c4, c5, c6⟩ := cfc7 b1
        have HX := Lib.hid hL
        clear hL
        go_wp2_with fail
        refine (hFN _).mono ?_; rintro e w2 ⟨p2, S2, rfl, y, _, _⟩
        replace hc := hc.trans y (by simp)
        replace b1 := b1.chg_ y (by simp)
        clear y hFN
        clear c0 c1 c2 c3 c4 c5 c6
        obtain ⟨c0, c1, c2, c3, c4, c5, c6⟩ := cfc7 b1
        have HRM := Lib.hid hrm
        clear hrm hsl
        go_wp2_with fail
        go_ret
        rw [HNO.out (fun ok => by have := ok.room; have := HRM.out; (try simp only at *); omega)]
        exact ⟨rfl, hc⟩
      · have hrd : decide (f + m > h) = false := by simpa using hrm
        go_enter Try.func11, Try.ntmps11
        go_wp2_with fail
        have b1 := Blk.new w 24 #[.int .i64 h, .slice A n k, .int .i64 f, .int .i64 m, .int .i64 t, .int .i64 a, .int .i64 r]
        have hc : Chg [] w (w.alloc (.cells #[.int .i64 h, .slice A n k, .int .i64 f, .int .i64 m, .int .i64 t, .int .i64 a, .int .i64 r] 24)) := (Chg.refl [] w).alloc _
        have hs1 := hsl.chg hc
        refine (RGNew_ok A n k L h _ hs1 hL).mono ?_; rintro e w1 ⟨p, S, rfl, y, _, _⟩
        replace hc := hc.trans y (by simp)
        replace b1 := b1.chg_ y (by simp)
        clear y hs1
        obtain ⟨c0, c1, c2, c3, c4, c5, c6⟩ := cfc7 b1
        have HX := Lib.hid hL
        clear hL
        go_wp2_with fail
        refine (hFN _).mono ?_; rintro e w2 ⟨p2, S2, rfl, y, _, _⟩
        replace hc := hc.trans y (by simp)
        replace b1 := b1.chg_ y (by simp)
        clear y hFN
        clear c0 c1 c2 c3 c4 c5 c6
        obtain ⟨c0, c1, c2, c3, c4, c5, c6⟩ := cfc7 b1
        go_wp2_with fail
        clear c0 c1 c2 c3 c4 c5 c6
        go_loopg [3] n (fun gg s wr => ∃ kk : Nat, kk ≤ n ∧ n - kk ≤ gg ∧ s = .int .i64 kk ∧ Aside (Chg [] w wr) ∧ Blk wr w.heap.size 24 #[.int .i64 h, .slice A n k, .int .i64 f, .int .i64 m, .int .i64 t, .int .i64 a, .int .i64 r] ∧ Aside (∀ j, j < kk → Cf.pool ⟨h, L, f, m, t, a, r⟩ (L.getD j 0) = false))
        case atStart => exact ⟨0, Nat.zero_le _, by omega, rfl, hc, b1, fun j hj => absurd hj (Nat.not_lt_zero _)⟩
        case round =>
          obtain ⟨kk, hkk, hg, rfl, BW, bC, HA⟩ := hrel
          clear b1 hc
          obtain ⟨c0, c1, c2, c3, c4, c5, c6⟩ := cfc7 bC
          by_cases hlt : kk < n
          · have hltz : (kk : Int) < (n : Int) := by omega
            obtain ⟨b, off, rfl, hb, hx, _⟩ := (hsl.chg BW.out).get hlt
            have hx64 : I64 (L.getD kk 0) := getD_wf HLW.out kk (by have := HL.out; omega)
            generalize hxx : L.getD kk 0 = x at *
            have EX := Lib.hid hxx
            clear hxx
            cases hpx : Cf.pool ⟨h, L, f, m, t, a, r⟩ x with
            | true =>
              have HPX := Lib.hid hpx
              have hP : ∀ W, Calls Try.prog 20 #[.agg #[.int .i64 h, .slice (some ⟨b, off, none⟩) n k, .int .i64 f, .int .i64 m, .int .i64 t, .int .i64 a, .int .i64 r], .int .i64 x] W fun e w' => e = .returned (.bool true) ∧ Chg [] W w' := fun W => RPool_is h L f m t a r _ n k x true W hx64 hp.1 hpx
              clear hpx hsl
              go_wp2_with fail
              have hCc := fun (q : Cls wr) => q.blk bC
              have hXc := fun (q : Cls wr) => q.cell hx
              have HC := Lib.hid hCc
              clear hCc
              have K0 := fun (q : Cls wr) => (HC.out q).cell 0
              have K1 := fun (q : Cls wr) => (HC.out q).cell 1
              have K2 := fun (q : Cls wr) => (HC.out q).cell 2
              have K3 := fun (q : Cls wr) => (HC.out q).cell 3
              have K4 := fun (q : Cls wr) => (HC.out q).cell 4
              have K5 := fun (q : Cls wr) => (HC.out q).cell 5
              have K6 := fun (q : Cls wr) => (HC.out q).cell 6
              simp only [List.getElem?_toArray, List.getElem?_cons_zero, List.getElem?_cons_succ] at K0 K1 K2 K3 K4 K5 K6
              clear c0 c1 c2 c3 c4 c5 c6 hx
              refine wp_region_cls (by kernel_rfl) (by kernel_rfl) ?_
              repeat (go_big_quiet_step (first | (go_at_call 20; with_reducible exact Calls.cls (hP _))))
              refine wpQuiet_nil ?_
              rintro _ ⟨q, rfl⟩
              have hq := q.ok
              have bQ := q.blk bC
              generalize q.val = wq at *
              clear K0 K1 K2 K3 K4 K5 K6 HC hXc hP
              have hBW : Chg [] w wq := BW.out.trans hq (by simp)
              have HBW := Lib.hid hBW
              clear hBW hq
              go_wp2_with fail
              go_ret
              rw [HNO.out (fun ok => by have := ok.apart x (by rw [← EX.out, List.getD_eq_getElem?_getD, List.getElem?_eq_getElem (by have := HL.out; omega)]; exact List.getElem_mem _); rw [HPX.out] at this; cases this)]
              exact ⟨rfl, HBW.out⟩
            | false =>
              have HPX := Lib.hid hpx
              have hP : ∀ W, Calls Try.prog 20 #[.agg #[.int .i64 h, .slice (some ⟨b, off, none⟩) n k, .int .i64 f, .int .i64 m, .int .i64 t, .int .i64 a, .int .i64 r], .int .i64 x] W fun e w' => e = .returned (.bool false) ∧ Chg [] W w' := fun W => RPool_is h L f m t a r _ n k x false W hx64 hp.1 hpx
              clear hpx hsl
              go_wp2_with fail
              have hCc := fun (q : Cls wr) => q.blk bC
              have hXc := fun (q : Cls wr) => q.cell hx
              have HC := Lib.hid hCc
              clear hCc
              have K0 := fun (q : Cls wr) => (HC.out q).cell 0
              have K1 := fun (q : Cls wr) => (HC.out q).cell 1
              have K2 := fun (q : Cls wr) => (HC.out q).cell 2
              have K3 := fun (q : Cls wr) => (HC.out q).cell 3
              have K4 := fun (q : Cls wr) => (HC.out q).cell 4
              have K5 := fun (q : Cls wr) => (HC.out q).cell 5
              have K6 := fun (q : Cls wr) => (HC.out q).cell 6
              simp only [List.getElem?_toArray, List.getElem?_cons_zero, List.getElem?_cons_succ] at K0 K1 K2 K3 K4 K5 K6
              clear c0 c1 c2 c3 c4 c5 c6 hx
              refine wp_region_cls (by kernel_rfl) (by kernel_rfl) ?_
              repeat (go_big_quiet_step (first | (go_at_call 20; with_reducible exact Calls.cls (hP _))))
              refine wpQuiet_nil ?_
              rintro _ ⟨q, rfl⟩
              have hq := q.ok
              have bQ := q.blk bC
              generalize q.val = wq at *
              clear K0 K1 K2 K3 K4 K5 K6 HC hXc hP
              have hBW : Chg [] w wq := BW.out.trans hq (by simp)
              have HBW := Lib.hid hBW
              clear hBW hq
              go_wp2_with fail
              go_roundg (n - (kk + 1))
              case measure => omega
              case rel =>
                refine ⟨kk + 1, by omega, by omega, by go_num, (show Aside _ from HBW.out), bQ, (show Aside _ from fun j hj => ?_)⟩
                by_cases e : j = kk
                · subst e; rw [EX.out]; exact HPX.out
                · exact HA.out j (by omega)
          · have hltz : ¬ (kk : Int) < (n : Int) := by omega
            obtain rfl : kk = n := by omega
            have HAP : Hid (szB ⟨h, L, f, m, t, a, r⟩ = true → R = true) := Lib.hid fun hz => HYES.out (HB.out ⟨HX.out, hp, hz, by (try simp only); omega, by
              rw [List.any_eq_false]
              intro x hx
              obtain ⟨j, hj, rfl⟩ := List.getElem_of_mem hx
              have := HA.out j (by have := HL.out; (try simp only at hj); omega)
              rw [List.getD_eq_getElem?_getD, List.getElem?_eq_getElem hj, Option.getD_some] at this
              unfold Cf.pool at this
              unfold poolB
              simp only [decide_eq_false_iff_not] at this
              simp; omega⟩)
            have HNZ : Hid (szB ⟨h, L, f, m, t, a, r⟩ = false → R = false) := Lib.hid fun hz => HNO.out fun ok => by have := (Cf.okB.1 ok).sz; rw [hz] at this; cases this
            clear HA hsl
            by_cases g0 : t ≥ 1
            · have gd0 : decide (t ≥ 1) = true := by simpa using g0
              by_cases g1 : t ≤ 64
              · have gd1 : decide (t ≤ 64) = true := by simpa using g1
                by_cases g2 : a ≥ 1
                · have gd2 : decide (a ≥ 1) = true := by simpa using g2
                  by_cases g3 : a ≤ 8
                  · have gd3 : decide (a ≤ 8) = true := by simpa using g3
                    by_cases g4 : r ≥ 0
                    · have gd4 : decide (r ≥ 0) = true := by simpa using g4
                      by_cases g5 : r ≤ 255
                      · have gd5 : decide (r ≤ 255) = true := by simpa using g5
                        go_wp2_with fail
                        go_ret
                        rw [HAP.out (by unfold szB; simp; omega)]
                        exact ⟨rfl, BW.out⟩
                      · have gd5 : decide (r ≤ 255) = false := by simpa using g5
                        go_wp2_with fail
                        go_ret
                        rw [HNZ.out (by unfold szB; simp; omega)]
                        exact ⟨rfl, BW.out⟩
                    · have gd4 : decide (r ≥ 0) = false := by simpa using g4
                      go_wp2_with fail
                      go_ret
                      rw [HNZ.out (by unfold szB; simp; omega)]
                      exact ⟨rfl, BW.out⟩
                  · have gd3 : decide (a ≤ 8) = false := by simpa using g3
                    go_wp2_with fail
                    go_ret
                    rw [HNZ.out (by unfold szB; simp; omega)]
                    exact ⟨rfl, BW.out⟩
                · have gd2 : decide (a ≥ 1) = false := by simpa using g2
                  go_wp2_with fail
                  go_ret
                  rw [HNZ.out (by unfold szB; simp; omega)]
                  exact ⟨rfl, BW.out⟩
              · have gd1 : decide (t ≤ 64) = false := by simpa using g1
                go_wp2_with fail
                go_ret
                rw [HNZ.out (by unfold szB; simp; omega)]
                exact ⟨rfl, BW.out⟩
            · have gd0 : decide (t ≥ 1) = false := by simpa using g0
              go_wp2_with fail
              go_ret
              rw [HNZ.out (by unfold szB; simp; omega)]
              exact ⟨rfl, BW.out⟩
    · go_enter Try.func11, Try.ntmps11
      go_wp2_with fail
      have b1 := Blk.new w 24 #[.int .i64 h, .slice A n k, .int .i64 f, .int .i64 m, .int .i64 t, .int .i64 a, .int .i64 r]
      have hc : Chg [] w (w.alloc (.cells #[.int .i64 h, .slice A n k, .int .i64 f, .int .i64 m, .int .i64 t, .int .i64 a, .int .i64 r] 24)) := (Chg.refl [] w).alloc _
      have hs1 := hsl.chg hc
      refine (RGNew_ok A n k L h _ hs1 hL).mono ?_; rintro e w1 ⟨p, S, rfl, y, _, _⟩
      replace hc := hc.trans y (by simp)
      replace b1 := b1.chg_ y (by simp)
      clear y hs1
      obtain ⟨c0, c1, c2, c3, c4, c5, c6⟩ := cfc7 b1
      have HX := Lib.hid hL
      clear hL
      go_wp2_with fail
      refine (RFNew_no f m _ hm64 (by omega)).mono ?_; rintro e w2 ⟨rfl, rfl⟩
      have HP := Lib.hid hp
      clear hp hsl
      go_wp2_with fail
      go_ret
      rw [HNO.out (fun ok => HP.out ⟨ok.first, ok.many, by have := ok.room; (try simp only at this); omega⟩)]
      exact ⟨rfl, hc⟩
  · go_enter Try.func11, Try.ntmps11
    go_wp2_with fail
    have b1 := Blk.new w 24 #[.int .i64 h, .slice A n k, .int .i64 f, .int .i64 m, .int .i64 t, .int .i64 a, .int .i64 r]
    have hc : Chg [] w (w.alloc (.cells #[.int .i64 h, .slice A n k, .int .i64 f, .int .i64 m, .int .i64 t, .int .i64 a, .int .i64 r] 24)) := (Chg.refl [] w).alloc _
    have hs1 := hsl.chg hc
    refine (RGNew_no A n k L h _ hs1 hL).mono ?_; rintro e w1 ⟨rfl, y⟩
    replace hc := hc.trans y (by simp)
    have HX := Lib.hid hL
    clear hL hsl hs1 b1
    go_wp2_with fail
    go_ret
    rw [HNO.out (fun ok => HX.out ok.map)]
    exact ⟨rfl, hc⟩

theorem RCRight_is (c : Cf) (A : Option Addr) (n k : Nat) (t : Bool) (w : World) (hs : CfIn c A n w) (ht : c.right = t) : Calls Try.prog 11 #[.agg (c.cs A n k)] w fun e w' => e = .returned (.bool t) ∧ Chg [] w w' := ht ▸ RCRight_at c A n k w hs
theorem RCRight_lit (h : Int) (L : List Int) (f m t a r : Int) (A : Option Addr) (n k : Nat) (tt : Bool) (w : World) (hs : SlK .i64 w A n L) (hw : Cf.Wf ⟨h, L, f, m, t, a, r⟩) (ht : Cf.right ⟨h, L, f, m, t, a, r⟩ = tt) :
    Calls Try.prog 11 #[.agg #[.int .i64 h, .slice A n k, .int .i64 f, .int .i64 m, .int .i64 t, .int .i64 a, .int .i64 r]] w fun e w' => e = .returned (.bool tt) ∧ Chg [] w w' := RCRight_is ⟨h, L, f, m, t, a, r⟩ A n k tt w ⟨hs, hw⟩ ht

set_option maxRecDepth 100000 in
set_option maxHeartbeats 8000000 in
theorem RCImage_at (c : Cf) (A : Option Addr) (n k : Nat) (w : World) (hs : CfIn c A n w) : Calls Try.prog 14 #[.agg (c.cs A n k)] w (FrmP c.image w) := by
  have hwf := hs.wf
  have hsl := hs.sl
  obtain ⟨i0, hi0, hz0, hz1, hz2⟩ := info_parts int_info
  cases hR : c.right with
  | false =>
    have hL : c.image = [] := Cf.image_no (fun ok => by rw [(Cf.right_iff c).2 ok] at hR; cases hR)
    rw [hL]
    clear hL
    obtain ⟨h, L, f, m, t, a, r⟩ := c
    unfold Cf.cs
    by_cases h0 : 0 < h
    · have h0d : decide (0 < h) = true := by simpa using h0
      go_enter Try.func14, Try.ntmps14
      go_wp2_with fail
      have hc : Chg [] w (w.alloc (.cells #[.int .i64 h, .slice A n k, .int .i64 f, .int .i64 m, .int .i64 t, .int .i64 a, .int .i64 r] 24)) := (Chg.refl [] w).alloc _
      go_loopw [3, 4] (fun s3 s wr => s3 = .slice none 0 0 ∧ s = .int .i64 0 ∧ Chg [] w wr ∧ Blk wr w.heap.size 24 #[.int .i64 h, .slice A n k, .int .i64 f, .int .i64 m, .int .i64 t, .int .i64 a, .int .i64 r]) (fun _ _ _ => 0)
      case atStart => exact ⟨rfl, rfl, hc, Blk.new _ _ _⟩
      case round =>
        obtain ⟨rfl, rfl, y, bC⟩ := hrel
        obtain ⟨c0, c1, c2, c3, c4, c5, c6⟩ := cfc7 bC
        clear hc
        go_wp2_with fail
        refine (RCRight_lit h L f m t a r A n k false _ (hsl.chg y) hwf hR).mono ?_; rintro e w2 ⟨rfl, y2⟩
        go_wp2_with fail
        go_ret
        exact ⟨none, 0, rfl, OwnI.none_ _ _ _, by simp [Value.ownBlock], y.trans y2 (by simp)⟩
    · have h0d : decide (0 < h) = false := by simpa using h0
      go_enter Try.func14, Try.ntmps14
      go_wp2_with fail
      have hc : Chg [] w (w.alloc (.cells #[.int .i64 h, .slice A n k, .int .i64 f, .int .i64 m, .int .i64 t, .int .i64 a, .int .i64 r] 24)) := (Chg.refl [] w).alloc _
      go_loopw [3, 4] (fun s3 s wr => s3 = .slice none 0 0 ∧ s = .int .i64 0 ∧ Chg [] w wr ∧ Blk wr w.heap.size 24 #[.int .i64 h, .slice A n k, .int .i64 f, .int .i64 m, .int .i64 t, .int .i64 a, .int .i64 r]) (fun _ _ _ => 0)
      case atStart => exact ⟨rfl, rfl, hc, Blk.new _ _ _⟩
      case round =>
        obtain ⟨rfl, rfl, y, bC⟩ := hrel
        obtain ⟨c0, c1, c2, c3, c4, c5, c6⟩ := cfc7 bC
        clear hc
        go_wp2_with fail
        go_ret
        exact ⟨none, 0, rfl, OwnI.none_ _ _ _, by simp [Value.ownBlock], y⟩
  | true =>
    have hok := (Cf.right_iff c).1 hR
    have hL : c.image = pickF (c.img) c.host.toNat := Cf.image_of hok
    have h1 := hok.host
    have hf0 := hok.first
    rw [hL]
    clear hL
    have HSEL : Hid (∀ x, (c.img) x = (c.map.contains x)) := Lib.hid fun _ => rfl
    generalize c.img = sel at *
    obtain ⟨h, L, f, m, t, a, r⟩ := c
    unfold Cf.cs
    simp only at *
    obtain ⟨H, rfl⟩ := Int.eq_ofNat_of_zero_le (show 0 ≤ h by omega)
    rw [show ((H : Int)).toNat = H from rfl]
    clear hok
    obtain ⟨T, hT⟩ : ∃ T, pickF sel H = T := ⟨_, rfl⟩
    rw [hT]
    have HT := Lib.hid hT
    clear hT
    go_enter Try.func14, Try.ntmps14
    go_wp2_with fail
    have hc : Chg [] w (w.alloc (.cells #[.int .i64 (H : Int), .slice A n k, .int .i64 f, .int .i64 m, .int .i64 t, .int .i64 a, .int .i64 r] 24)) := (Chg.refl [] w).alloc _
    go_loopw [3, 4] (fun s3 s wr => ∃ (i : Nat) (v : Value), i ≤ H ∧ s3 = v ∧ s = .int .i64 i ∧ Chg [] w wr ∧ Blk wr w.heap.size 24 #[.int .i64 (H : Int), .slice A n k, .int .i64 f, .int .i64 m, .int .i64 t, .int .i64 a, .int .i64 r] ∧ OwnI wr 3 .i64 v (pickF sel i) ∧ (∀ g ∈ v.ownBlock.toList, w.heap.size < g)) (fun _ s _ => H - (intOf s).toNat)
    case atStart => exact ⟨0, .slice none 0 0, by omega, rfl, rfl, hc, Blk.new _ _ _, OwnI.none_ _ _ _, by simp [Value.ownBlock]⟩
    case round =>
      obtain ⟨i, v, hi, rfl, rfl, y, bC, ho, hg⟩ := hrel
      clear hc
      obtain ⟨c0, c1, c2, c3, c4, c5, c6⟩ := cfc7 bC
      obtain ⟨Av, cv, rfl⟩ := ho.form
      by_cases hlt : i < H
      · have hltz : (i : Int) < (H : Int) := by omega
        have hlen := pickF_le sel i
        have hsel := HSEL.out i
        have hps := pickF_succ sel i
        have hR1 := fun W (hc : Chg [] w W) => RCRight_lit H L f m t a r A n k true W (hsl.chg hc) hwf hR
        have hI : ∀ W, Chg [] w W → Calls Try.prog 23 #[.slice A n k, .int .i64 (i : Int)] W fun e w' => e = .returned (.bool (L.contains (i : Int))) ∧ Chg [] W w' := fun W hc => RIn_at A n k L i W (hsl.chg hc)
        generalize L.contains (i : Int) = bi at *
        generalize hX : pickF sel i = X at *
        have HX := Lib.hid hX
        clear hX
        have HPS := Lib.hid hps
        have HSE := Lib.hid hsel
        clear hps hsel
        cases bi with
        | false =>
          go_wp2_with fail
          refine (hR1 _ y).mono ?_; rintro e w2 ⟨rfl, y2⟩
          have bC2 := bC.chg_ y2 (by simp)
          have ho2 := ho.chg y2 (by simp)
          have k2 := y.trans y2 (by simp)
          clear c0 c1 c2 c3 c4 c5 c6
          obtain ⟨c0, c1, c2, c3, c4, c5, c6⟩ := cfc7 bC2
          go_wp2_with fail
          refine (hI _ k2).mono ?_; rintro e w4 ⟨rfl, y4⟩
          have bC4 := bC2.chg_ y4 (by simp)
          have ho3 := ho2.chg y4 (by simp)
          have k4 := k2.trans y4 (by simp)
          clear c0 c1 c2 c3 c4 c5 c6
          obtain ⟨c0, c1, c2, c3, c4, c5, c6⟩ := cfc7 bC4
          clear bC bC2 ho ho2 y2 y4 k2 y
          have HN : Hid (pickF sel (i + 1) = X) := Lib.hid (by rw [HPS.out, HSE.out]; simp)
          go_wp2_with fail
          go_roundw
          case rel => exact ⟨i + 1, _, by omega, rfl, by go_num, k4, bC4, by rw [HN.out]; exact ho3, hg⟩
          case measure => simp [intOf]; omega
        | true =>
          go_wp2_with fail
          refine (hR1 _ y).mono ?_; rintro e w2 ⟨rfl, y2⟩
          have bC2 := bC.chg_ y2 (by simp)
          have ho2 := ho.chg y2 (by simp)
          have k2 := y.trans y2 (by simp)
          clear c0 c1 c2 c3 c4 c5 c6
          obtain ⟨c0, c1, c2, c3, c4, c5, c6⟩ := cfc7 bC2
          go_wp2_with fail
          refine (hI _ k2).mono ?_; rintro e w4 ⟨rfl, y4⟩
          have bC4 := bC2.chg_ y4 (by simp)
          have ho3 := ho2.chg y4 (by simp)
          have k4 := k2.trans y4 (by simp)
          clear c0 c1 c2 c3 c4 c5 c6
          obtain ⟨c0, c1, c2, c3, c4, c5, c6⟩ := cfc7 bC4
          clear bC bC2 ho ho2 y2 y4 k2 y
          have HN : Hid (pickF sel (i + 1) = X ++ [(i : Int)]) := Lib.hid (by rw [HPS.out, HSE.out]; simp)
          have hxl : X.length ≤ 256 := by omega
          go_wp2_with (at_builtin; refine wpList_append_src rfl _ _ 22 rfl 0 3 i0 _ 1 8 Try.underlying22 hi0 hz0 hz1 hz2 rfl (by omega) (.slice Av X.length cv) _ _ rfl (World.ownsRow.alloc ho3 _) (some ⟨w4.heap.size, 0, none⟩) 1 1 [.int .i64 (i : Int)] rfl ⟨by simp, by simp [Value.oneCell'], by simp, cell_src (i : Int) w4⟩ (by simp [maxLen]; omega) (by omega) (by simp) ?_; intro v5 w5 hown5 hc5 hv5; obtain ⟨A5, cp5, rfl, hz5a, hz5b⟩ := own_form hown5; clear hz5a hz5b)
          go_roundw
          case rel =>
            refine ⟨i + 1, _, by omega, rfl, by go_num, (k4.alloc _).trans hc5 (by intro g hgl hm; have := hg g hm; omega), hc5.blk (bC4.alloc _) (fun hm => absurd (hg _ hm) (by omega)), ?_, ?_⟩
            · rw [HN.out]; unfold OwnI; rw [vals_app, vals_one, List.length_append]; exact hown5
            · intro g hg'; rcases hv5 with e | e; (rw [e] at hg'; exact hg g hg'); (rw [e] at hg'; simp at hg'; have := bC4.lt; omega)
          case measure => simp [intOf]; omega
      · have hltz : ¬ (i : Int) < (H : Int) := by omega
        obtain rfl : i = H := by omega
        rw [HT.out] at ho hg
        rw [HT.out]
        go_wp2_with fail
        go_ret
        exact ⟨Av, cv, rfl, ho, fun g hg' => Nat.le_of_lt (hg g hg'), y⟩

set_option maxRecDepth 100000 in
set_option maxHeartbeats 8000000 in
theorem RCForeign_at (c : Cf) (A : Option Addr) (n k : Nat) (w : World) (hs : CfIn c A n w) : Calls Try.prog 16 #[.agg (c.cs A n k)] w (FrmP c.foreign w) := by
  have hwf := hs.wf
  have hsl := hs.sl
  obtain ⟨i0, hi0, hz0, hz1, hz2⟩ := info_parts int_info
  cases hR : c.right with
  | false =>
    have hL : c.foreign = [] := Cf.foreign_no (fun ok => by rw [(Cf.right_iff c).2 ok] at hR; cases hR)
    rw [hL]
    clear hL
    obtain ⟨h, L, f, m, t, a, r⟩ := c
    unfold Cf.cs
    by_cases h0 : 0 < h
    · have h0d : decide (0 < h) = true := by simpa using h0
      go_enter Try.func16, Try.ntmps16
      go_wp2_with fail
      have hc : Chg [] w (w.alloc (.cells #[.int .i64 h, .slice A n k, .int .i64 f, .int .i64 m, .int .i64 t, .int .i64 a, .int .i64 r] 24)) := (Chg.refl [] w).alloc _
      go_loopw [3, 4] (fun s3 s wr => s3 = .slice none 0 0 ∧ s = .int .i64 0 ∧ Chg [] w wr ∧ Blk wr w.heap.size 24 #[.int .i64 h, .slice A n k, .int .i64 f, .int .i64 m, .int .i64 t, .int .i64 a, .int .i64 r]) (fun _ _ _ => 0)
      case atStart => exact ⟨rfl, rfl, hc, Blk.new _ _ _⟩
      case round =>
        obtain ⟨rfl, rfl, y, bC⟩ := hrel
        obtain ⟨c0, c1, c2, c3, c4, c5, c6⟩ := cfc7 bC
        clear hc
        go_wp2_with fail
        refine (RCRight_lit h L f m t a r A n k false _ (hsl.chg y) hwf hR).mono ?_; rintro e w2 ⟨rfl, y2⟩
        go_wp2_with fail
        go_ret
        exact ⟨none, 0, rfl, OwnI.none_ _ _ _, by simp [Value.ownBlock], y.trans y2 (by simp)⟩
    · have h0d : decide (0 < h) = false := by simpa using h0
      go_enter Try.func16, Try.ntmps16
      go_wp2_with fail
      have hc : Chg [] w (w.alloc (.cells #[.int .i64 h, .slice A n k, .int .i64 f, .int .i64 m, .int .i64 t, .int .i64 a, .int .i64 r] 24)) := (Chg.refl [] w).alloc _
      go_loopw [3, 4] (fun s3 s wr => s3 = .slice none 0 0 ∧ s = .int .i64 0 ∧ Chg [] w wr ∧ Blk wr w.heap.size 24 #[.int .i64 h, .slice A n k, .int .i64 f, .int .i64 m, .int .i64 t, .int .i64 a, .int .i64 r]) (fun _ _ _ => 0)
      case atStart => exact ⟨rfl, rfl, hc, Blk.new _ _ _⟩
      case round =>
        obtain ⟨rfl, rfl, y, bC⟩ := hrel
        obtain ⟨c0, c1, c2, c3, c4, c5, c6⟩ := cfc7 bC
        clear hc
        go_wp2_with fail
        go_ret
        exact ⟨none, 0, rfl, OwnI.none_ _ _ _, by simp [Value.ownBlock], y⟩
  | true =>
    have hok := (Cf.right_iff c).1 hR
    have hL : c.foreign = pickF (c.frn) c.host.toNat := Cf.foreign_of hok
    have h1 := hok.host
    have hf0 := hok.first
    rw [hL]
    clear hL
    have HSEL : Hid (∀ x, (c.frn) x = ((!c.map.contains x && !c.pool x))) := Lib.hid fun _ => rfl
    generalize c.frn = sel at *
    obtain ⟨h, L, f, m, t, a, r⟩ := c
    unfold Cf.cs
    simp only at *
    obtain ⟨H, rfl⟩ := Int.eq_ofNat_of_zero_le (show 0 ≤ h by omega)
    rw [show ((H : Int)).toNat = H from rfl]
    clear hok
    obtain ⟨T, hT⟩ : ∃ T, pickF sel H = T := ⟨_, rfl⟩
    rw [hT]
    have HT := Lib.hid hT
    clear hT
    go_enter Try.func16, Try.ntmps16
    go_wp2_with fail
    have hc : Chg [] w (w.alloc (.cells #[.int .i64 (H : Int), .slice A n k, .int .i64 f, .int .i64 m, .int .i64 t, .int .i64 a, .int .i64 r] 24)) := (Chg.refl [] w).alloc _
    go_loopw [3, 4] (fun s3 s wr => ∃ (i : Nat) (v : Value), i ≤ H ∧ s3 = v ∧ s = .int .i64 i ∧ Chg [] w wr ∧ Blk wr w.heap.size 24 #[.int .i64 (H : Int), .slice A n k, .int .i64 f, .int .i64 m, .int .i64 t, .int .i64 a, .int .i64 r] ∧ OwnI wr 3 .i64 v (pickF sel i) ∧ (∀ g ∈ v.ownBlock.toList, w.heap.size < g)) (fun _ s _ => H - (intOf s).toNat)
    case atStart => exact ⟨0, .slice none 0 0, by omega, rfl, rfl, hc, Blk.new _ _ _, OwnI.none_ _ _ _, by simp [Value.ownBlock]⟩
    case round =>
      obtain ⟨i, v, hi, rfl, rfl, y, bC, ho, hg⟩ := hrel
      clear hc
      obtain ⟨c0, c1, c2, c3, c4, c5, c6⟩ := cfc7 bC
      obtain ⟨Av, cv, rfl⟩ := ho.form
      by_cases hlt : i < H
      · have hltz : (i : Int) < (H : Int) := by omega
        have hlen := pickF_le sel i
        have hsel := HSEL.out i
        have hps := pickF_succ sel i
        have hR1 := fun W (hc : Chg [] w W) => RCRight_lit H L f m t a r A n k true W (hsl.chg hc) hwf hR
        have hI : ∀ W, Chg [] w W → Calls Try.prog 23 #[.slice A n k, .int .i64 (i : Int)] W fun e w' => e = .returned (.bool (L.contains (i : Int))) ∧ Chg [] W w' := fun W hc => RIn_at A n k L i W (hsl.chg hc)
        have hP : ∀ W, Calls Try.prog 20 #[.agg #[.int .i64 (H : Int), .slice A n k, .int .i64 f, .int .i64 m, .int .i64 t, .int .i64 a, .int .i64 r], .int .i64 (i : Int)] W fun e w' => e = .returned (.bool (Cf.pool ⟨(H : Int), L, f, m, t, a, r⟩ (i : Int))) ∧ Chg [] W w' := fun W => RPool_is H L f m t a r A n k i _ W (by unfold I64; omega) hf0 rfl
        generalize Cf.pool ⟨(H : Int), L, f, m, t, a, r⟩ (i : Int) = bp at *
        generalize L.contains (i : Int) = bi at *
        generalize hX : pickF sel i = X at *
        have HX := Lib.hid hX
        clear hX
        have HPS := Lib.hid hps
        have HSE := Lib.hid hsel
        clear hps hsel
        cases bi with
        | true =>
          go_wp2_with fail
          refine (hR1 _ y).mono ?_; rintro e w2 ⟨rfl, y2⟩
          have bC2 := bC.chg_ y2 (by simp)
          have ho2 := ho.chg y2 (by simp)
          have k2 := y.trans y2 (by simp)
          clear c0 c1 c2 c3 c4 c5 c6
          obtain ⟨c0, c1, c2, c3, c4, c5, c6⟩ := cfc7 bC2
          go_wp2_with fail
          refine (hI _ k2).mono ?_; rintro e w4 ⟨rfl, y4⟩
          have bC4 := bC2.chg_ y4 (by simp)
          have ho3 := ho2.chg y4 (by simp)
          have k4 := k2.trans y4 (by simp)
          clear c0 c1 c2 c3 c4 c5 c6
          obtain ⟨c0, c1, c2, c3, c4, c5, c6⟩ := cfc7 bC4
          clear bC bC2 ho ho2 y2 y4 k2 y
          have HN : Hid (pickF sel (i + 1) = X) := Lib.hid (by rw [HPS.out, HSE.out]; simp)
          go_wp2_with fail
          go_roundw
          case rel => exact ⟨i + 1, _, by omega, rfl, by go_num, k4, bC4, by rw [HN.out]; exact ho3, hg⟩
          case measure => simp [intOf]; omega
        | false =>
          cases bp with
          | true =>
            go_wp2_with fail
            refine (hR1 _ y).mono ?_; rintro e w2 ⟨rfl, y2⟩
            have bC2 := bC.chg_ y2 (by simp)
            have ho2 := ho.chg y2 (by simp)
            have k2 := y.trans y2 (by simp)
            clear c0 c1 c2 c3 c4 c5 c6
            obtain ⟨c0, c1, c2, c3, c4, c5, c6⟩ := cfc7 bC2
            go_wp2_with fail
            refine (hI _ k2).mono ?_; rintro e w4 ⟨rfl, y4⟩
            have bC4 := bC2.chg_ y4 (by simp)
            have ho3 := ho2.chg y4 (by simp)
            have k4 := k2.trans y4 (by simp)
            clear c0 c1 c2 c3 c4 c5 c6
            obtain ⟨c0, c1, c2, c3, c4, c5, c6⟩ := cfc7 bC4
            clear bC bC2 ho ho2 y2 y4 k2 y
            go_wp2_with fail
            refine (hP _).mono ?_; rintro e w6 ⟨rfl, y6⟩
            replace bC4 := bC4.chg_ y6 (by simp)
            replace ho3 := ho3.chg y6 (by simp)
            replace k4 := k4.trans y6 (by simp)
            clear y6
            clear c0 c1 c2 c3 c4 c5 c6
            obtain ⟨c0, c1, c2, c3, c4, c5, c6⟩ := cfc7 bC4
            have HN : Hid (pickF sel (i + 1) = X) := Lib.hid (by rw [HPS.out, HSE.out]; simp)
            go_wp2_with fail
            go_roundw
            case rel => exact ⟨i + 1, _, by omega, rfl, by go_num, k4, bC4, by rw [HN.out]; exact ho3, hg⟩
            case measure => simp [intOf]; omega
          | false =>
            go_wp2_with fail
            refine (hR1 _ y).mono ?_; rintro e w2 ⟨rfl, y2⟩
            have bC2 := bC.chg_ y2 (by simp)
            have ho2 := ho.chg y2 (by simp)
            have k2 := y.trans y2 (by simp)
            clear c0 c1 c2 c3 c4 c5 c6
            obtain ⟨c0, c1, c2, c3, c4, c5, c6⟩ := cfc7 bC2
            go_wp2_with fail
            refine (hI _ k2).mono ?_; rintro e w4 ⟨rfl, y4⟩
            have bC4 := bC2.chg_ y4 (by simp)
            have ho3 := ho2.chg y4 (by simp)
            have k4 := k2.trans y4 (by simp)
            clear c0 c1 c2 c3 c4 c5 c6
            obtain ⟨c0, c1, c2, c3, c4, c5, c6⟩ := cfc7 bC4
            clear bC bC2 ho ho2 y2 y4 k2 y
            go_wp2_with fail
            refine (hP _).mono ?_; rintro e w6 ⟨rfl, y6⟩
            replace bC4 := bC4.chg_ y6 (by simp)
            replace ho3 := ho3.chg y6 (by simp)
            replace k4 := k4.trans y6 (by simp)
            clear y6
            clear c0 c1 c2 c3 c4 c5 c6
            obtain ⟨c0, c1, c2, c3, c4, c5, c6⟩ := cfc7 bC4
            have HN : Hid (pickF sel (i + 1) = X ++ [(i : Int)]) := Lib.hid (by rw [HPS.out, HSE.out]; simp)
            have hxl : X.length ≤ 256 := by omega
            go_wp2_with (at_builtin; refine wpList_append_src rfl _ _ 22 rfl 0 3 i0 _ 1 8 Try.underlying22 hi0 hz0 hz1 hz2 rfl (by omega) (.slice Av X.length cv) _ _ rfl (World.ownsRow.alloc ho3 _) (some ⟨w6.heap.size, 0, none⟩) 1 1 [.int .i64 (i : Int)] rfl ⟨by simp, by simp [Value.oneCell'], by simp, cell_src (i : Int) w6⟩ (by simp [maxLen]; omega) (by omega) (by simp) ?_; intro v5 w5 hown5 hc5 hv5; obtain ⟨A5, cp5, rfl, hz5a, hz5b⟩ := own_form hown5; clear hz5a hz5b)
            go_roundw
            case rel =>
              refine ⟨i + 1, _, by omega, rfl, by go_num, (k4.alloc _).trans hc5 (by intro g hgl hm; have := hg g hm; omega), hc5.blk (bC4.alloc _) (fun hm => absurd (hg _ hm) (by omega)), ?_, ?_⟩
              · rw [HN.out]; unfold OwnI; rw [vals_app, vals_one, List.length_append]; exact hown5
              · intro g hg'; rcases hv5 with e | e; (rw [e] at hg'; exact hg g hg'); (rw [e] at hg'; simp at hg'; have := bC4.lt; omega)
            case measure => simp [intOf]; omega
      · have hltz : ¬ (i : Int) < (H : Int) := by omega
        obtain rfl : i = H := by omega
        rw [HT.out] at ho hg
        rw [HT.out]
        go_wp2_with fail
        go_ret
        exact ⟨Av, cv, rfl, ho, fun g hg' => Nat.le_of_lt (hg g hg'), y⟩

end Go.Proofs.Ytkggkdjhecagnaa
