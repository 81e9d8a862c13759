/-
  The contracts of script.only and Right.
-/
import Derived.Test.YtdmcicgappgiiaaScriptB
namespace Go.Proofs.Ytdmcicgappgiiaa
open Go.RowKit Go.Shelf

theorem blk_three (w : World) (o p : Obj) (t : TypeId) (cs : Array Value) : Blk (((w.alloc o).alloc p).alloc (.cells cs t)) (w.heap.size + 1 + 1) t cs := by have := Blk.new ((w.alloc o).alloc p) t cs; simpa using this
theorem set7 {w : World} {g : Nat} {t : TypeId} {x0 x1 x2 x3 x4 x5 x6 y0 y1 y2 y3 y4 y5 y6 : Value} (h : Blk w g t #[x0, x1, x2, x3, x4, x5, x6]) :
    Blk (((((((w.setCell ⟨g, 0, none⟩ y0).setCell ⟨g, 1, none⟩ y1).setCell ⟨g, 2, none⟩ y2).setCell ⟨g, 3, none⟩ y3).setCell ⟨g, 4, none⟩ y4).setCell ⟨g, 5, none⟩ y5).setCell ⟨g, 6, none⟩ y6) g t #[y0, y1, y2, y3, y4, y5, y6] := by
  have := ((((((h.set_ 0 y0).set_ 1 y1).set_ 2 y2).set_ 3 y3).set_ 4 y4).set_ 5 y5).set_ 6 y6; simpa using this
theorem chg7 {S : List Nat} {a w : World} {g : Nat} {y0 y1 y2 y3 y4 y5 y6 : Value} (h : Chg S a w) (hg : g < a.heap.size → g ∈ S) :
    Chg S a (((((((w.setCell ⟨g, 0, none⟩ y0).setCell ⟨g, 1, none⟩ y1).setCell ⟨g, 2, none⟩ y2).setCell ⟨g, 3, none⟩ y3).setCell ⟨g, 4, none⟩ y4).setCell ⟨g, 5, none⟩ y5).setCell ⟨g, 6, none⟩ y6) :=
  ((((((h.setCell (p := ⟨g, 0, none⟩) hg y0).setCell (p := ⟨g, 1, none⟩) hg y1).setCell (p := ⟨g, 2, none⟩) hg y2).setCell (p := ⟨g, 3, none⟩) hg y3).setCell (p := ⟨g, 4, none⟩) hg y4).setCell (p := ⟨g, 5, none⟩) hg y5).setCell (p := ⟨g, 6, none⟩) hg y6
theorem value_small {o : Sop} {c : Int} (hs : smallS o = true) (h : c = 71 ∨ c = 73 ∨ c = 78) : 0 ≤ valueC o c ∧ valueC o c < 256 := by
  unfold smallS at hs
  simp only [Bool.and_eq_true, decide_eq_true_eq] at hs
  rcases h with rfl | rfl | rfl <;> simp [valueC] <;> omega
set_option maxRecDepth 100000 in
set_option maxHeartbeats 2000000 in
theorem ScOnly_any (o : Sop) (hs : smallS o = true) (w : World) : Calls Try.prog 23 #[.agg o.ar] w fun e w' => e = .returned (.agg (onlyK o (partsC o.what).length).ar) ∧ Chg [] w w' := by
  have hP := fun w9 => ScParts_any o.what w9
  have hV := fun c (hc : isC c) w9 => ScValue_any o hc hs w9
  have hpl := parts_len o.what
  simp only [Sop.ar] at hV ⊢
  have hb := Blk.new w 31 #[.int .i64 o.what, .bool o.user, .int .u64 o.a, .int .u64 o.v, .int .i64 o.g, .int .i64 o.i, .int .i64 o.n]
  have B1 : Blk (((w.alloc (.cells #[.int .i64 o.what, .bool o.user, .int .u64 o.a, .int .u64 o.v, .int .i64 o.g, .int .i64 o.i, .int .i64 o.n] 31)).alloc (.cells #[.int .i64 0, .bool false, .int .u64 0, .int .u64 0, .int .i64 0, .int .i64 0, .int .i64 0] 31)).alloc (.cells #[.int .i64 (zeroS o.what).what, .bool (zeroS o.what).user, .int .u64 (zeroS o.what).a, .int .u64 (zeroS o.what).v, .int .i64 (zeroS o.what).g, .int .i64 (zeroS o.what).i, .int .i64 (zeroS o.what).n] 31)) w.heap.size 31 #[.int .i64 o.what, .bool o.user, .int .u64 o.a, .int .u64 o.v, .int .i64 o.g, .int .i64 o.i, .int .i64 o.n] := (hb.alloc _).alloc _
  have B2 : Blk (((w.alloc (.cells #[.int .i64 o.what, .bool o.user, .int .u64 o.a, .int .u64 o.v, .int .i64 o.g, .int .i64 o.i, .int .i64 o.n] 31)).alloc (.cells #[.int .i64 0, .bool false, .int .u64 0, .int .u64 0, .int .i64 0, .int .i64 0, .int .i64 0] 31)).alloc (.cells #[.int .i64 (zeroS o.what).what, .bool (zeroS o.what).user, .int .u64 (zeroS o.what).a, .int .u64 (zeroS o.what).v, .int .i64 (zeroS o.what).g, .int .i64 (zeroS o.what).i, .int .i64 (zeroS o.what).n] 31)) (w.heap.size + 1) 31 #[.int .i64 0, .bool false, .int .u64 0, .int .u64 0, .int .i64 0, .int .i64 0, .int .i64 0] := (blk_two w _ _ _).alloc _
  have B3 := blk_three w (.cells #[.int .i64 o.what, .bool o.user, .int .u64 o.a, .int .u64 o.v, .int .i64 o.g, .int .i64 o.i, .int .i64 o.n] 31) (.cells #[.int .i64 0, .bool false, .int .u64 0, .int .u64 0, .int .i64 0, .int .i64 0, .int .i64 0] 31) 31 #[.int .i64 (zeroS o.what).what, .bool (zeroS o.what).user, .int .u64 (zeroS o.what).a, .int .u64 (zeroS o.what).v, .int .i64 (zeroS o.what).g, .int .i64 (zeroS o.what).i, .int .i64 (zeroS o.what).n]
  have k3 : Chg [] w (((w.alloc (.cells #[.int .i64 o.what, .bool o.user, .int .u64 o.a, .int .u64 o.v, .int .i64 o.g, .int .i64 o.i, .int .i64 o.n] 31)).alloc (.cells #[.int .i64 0, .bool false, .int .u64 0, .int .u64 0, .int .i64 0, .int .i64 0, .int .i64 0] 31)).alloc (.cells #[.int .i64 (zeroS o.what).what, .bool (zeroS o.what).user, .int .u64 (zeroS o.what).a, .int .u64 (zeroS o.what).v, .int .i64 (zeroS o.what).g, .int .i64 (zeroS o.what).i, .int .i64 (zeroS o.what).n] 31)) := (((Chg.refl [] w).alloc _).alloc _).alloc _
  have hsz : (((w.alloc (.cells #[.int .i64 o.what, .bool o.user, .int .u64 o.a, .int .u64 o.v, .int .i64 o.g, .int .i64 o.i, .int .i64 o.n] 31)).alloc (.cells #[.int .i64 0, .bool false, .int .u64 0, .int .u64 0, .int .i64 0, .int .i64 0, .int .i64 0] 31)).alloc (.cells #[.int .i64 (zeroS o.what).what, .bool (zeroS o.what).user, .int .u64 (zeroS o.what).a, .int .u64 (zeroS o.what).v, .int .i64 (zeroS o.what).g, .int .i64 (zeroS o.what).i, .int .i64 (zeroS o.what).n] 31)).heap.size = w.heap.size + 1 + 1 + 1 := by simp
  replace hsz := Lib.hid hsz
  obtain ⟨c0, c1, c2, c3, c4, c5, c6⟩ := blk7 hb
  go_enter Try.func23, Try.ntmps23
  go_wp2_with fail
  refine (hP _).mono ?_; rintro e w2 ⟨rfl, rfl⟩
  clear hP hb
  simp only [zeroS] at B1 B2 B3 k3 hsz
  generalize ((w.alloc (.cells #[.int .i64 o.what, .bool o.user, .int .u64 o.a, .int .u64 o.v, .int .i64 o.g, .int .i64 o.i, .int .i64 o.n] 31)).alloc (.cells #[.int .i64 0, .bool false, .int .u64 0, .int .u64 0, .int .i64 0, .int .i64 0, .int .i64 0] 31)).alloc (.cells #[.int .i64 o.what, .bool false, .int .u64 0, .int .u64 0, .int .i64 0, .int .i64 0, .int .i64 0] 31) = W at *
  have hIt := ItAt.new W (partsB o.what)
  clear c0 c1 c2 c3 c4 c5 c6
  go_wp2_with fail
  go_loopg [5] 4 (fun gg s5 wr => ∃ (k : Nat), k ≤ (partsC o.what).length ∧ (partsC o.what).length - k ≤ gg ∧ Aside (Blk wr w.heap.size 31 #[.int .i64 o.what, .bool o.user, .int .u64 o.a, .int .u64 o.v, .int .i64 o.g, .int .i64 o.i, .int .i64 o.n]) ∧ Aside (Blk wr (w.heap.size + 1) 31 #[.int .i64 0, .bool false, .int .u64 0, .int .u64 0, .int .i64 0, .int .i64 0, .int .i64 0]) ∧ Aside (Blk wr (w.heap.size + 1 + 1) 31 (onlyK o k).ar) ∧ Aside (ItAt wr W.heap.size (partsB o.what) k) ∧ Aside (Chg [] w wr))
  case atStart => exact ⟨0, by omega, by omega, B1.alloc _, B2.alloc _, B3.alloc _, hIt, chg_iter k3 _ _⟩
  case round =>
    obtain ⟨k, hk, hg, C1, C2, C3, I, h0⟩ := hrel
    have C1 := C1.out; have C2 := C2.out; have C3 := C3.out; have I := I.out; have h0 := h0.out
    clear B1 B2 B3 hIt k3
    by_cases hlt : k < (partsC o.what).length
    · obtain ⟨c, hx⟩ : ∃ c, (partsC o.what)[k]? = some c := ⟨_, List.getElem?_eq_getElem hlt⟩
      have hic := parts_is _ c (List.mem_of_getElem? hx)
      have hN := fun ty => run_next I hx ty
      have hst := Lib.hid (only_succ hx)
      have hvv : c = 71 ∨ c = 73 ∨ c = 78 → 0 ≤ valueC o c ∧ valueC o c < 256 := value_small hs
      have hW := fun w9 => ScWith_any (onlyK o k) hic hvv w9
      have hV := hV c hic
      clear hvv hic hx
      have D1 := blk_iterAt C1 I (k + 1); have D2 := blk_iterAt C2 I (k + 1); have D3 := blk_iterAt C3 I (k + 1); have J := I.on (j := k + 1); have k0 := chg_iterAt h0 (g := W.heap.size) (by have := hsz.out; omega) (partsB o.what) (k + 1)
      clear C1 C2 C3 I h0
      generalize onlyK o k = X at *
      rw [← hst.out] at hW
      generalize hY : onlyK o (k + 1) = Y at *
      obtain ⟨hst, hY⟩ : True ∧ Hid (onlyK o (k + 1) = Y) := ⟨trivial, Lib.hid hY⟩
      simp only [Sop.ar] at hW D3
      generalize valueC o c = vc at *
      go_wp2_with fail
      clear hN
      generalize wr.iterAt W.heap.size (partsB o.what) (k + 1) = w1 at *
      replace k0 := k0.drew; replace D1 := D1.drew; replace D2 := D2.drew; replace D3 := D3.drew; replace J : ItAt w1.drew W.heap.size (partsB o.what) (k + 1) := J
      refine wp_region_noPanic ?_
      refine wp_region_held_drew (S := (fun w' => True)) (by kernel_rfl) ?_ (fun hHeld => ?_)
      · trivial
      (refine take_on 1 (some 17) (v := ?_) rfl rfl (by kernel_rfl) (by kernel_rfl) (by kernel_rfl) (fun _ _ _ h => h) (by rfl) (by assumption) ?_ ?_; rotate_left; · (intro w hSw; (try dsimp only at hSw); go_simp; (try with_reducible rfl)))
      (try simp only [Act.put, List.setIfInBounds_toArray, List.set_cons_zero, List.set_cons_succ])
      (refine take_on 3 (some 19) (v := ?_) rfl rfl (by kernel_rfl) (by kernel_rfl) (by kernel_rfl) (fun _ _ _ h => h) (by rfl) (by assumption) ?_ ?_; rotate_left; · (intro w hSw; (try dsimp only at hSw); go_simp; (try with_reducible rfl)))
      (try simp only [Act.put, List.setIfInBounds_toArray, List.set_cons_zero, List.set_cons_succ])
      refine wpAnyH_ready (rs := [0, 2]) (by kernel_rfl) (by simp) ?_; refine AllReadyH.cons (o := _) rfl (fun K hK => ?_) (AllReadyH.cons (o := _) rfl (fun K hK => ?_) AllReadyH.nil)
      · (obtain ⟨x0, x1, x2, x3, x4, x5, x6⟩ := blk7 D3)
        go_simp
        skip
        refine hK.out _ _ (by (try dsimp only); skip) (fun hHeld => ?_)
        clear hK K
        (try simp only [Act.put, List.setIfInBounds_toArray, List.set_cons_zero, List.set_cons_succ])
        clear x0 x1 x2 x3 x4 x5 x6
        (obtain ⟨v0, v1, v2, v3, v4, v5, v6⟩ := blk7 D1)
        refine wpAnyH_ready (rs := [2]) (by kernel_rfl) (by simp) ?_; refine AllReadyH.cons (o := _) rfl (fun K hK => ?_) AllReadyH.nil
        go_simp
        skip
        refine hK.out _ _ (by (try dsimp only); skip) (fun hHeld => ?_)
        clear hK K
        (try simp only [Act.put, List.setIfInBounds_toArray, List.set_cons_zero, List.set_cons_succ])
        clear v0 v1 v2 v3 v4 v5 v6
        refine wpAnyH_ready (rs := [4]) (by kernel_rfl) (by simp) ?_; refine AllReadyH.cons (o := _) rfl (fun K hK => ?_) AllReadyH.nil
        go_simp
        (go_at_call 30; refine (hV _).mono ?_; rintro e u1 ⟨rfl, y1⟩)
        refine hK.out _ _ (by (try dsimp only); skip) (fun hHeld => ?_)
        clear hK K
        (try simp only [Act.put, List.setIfInBounds_toArray, List.set_cons_zero, List.set_cons_succ])
        clear hV
        replace k0 := k0.trans y1 (by simp); replace D1 := y1.blk D1 (by simp); replace D2 := y1.blk D2 (by simp); replace D3 := y1.blk D3 (by simp); replace J := J.chg y1 (by simp)
        clear y1
        refine wpAnyH_ready (rs := [5]) (by kernel_rfl) (by simp) ?_; refine AllReadyH.cons (o := _) rfl (fun K hK => ?_) AllReadyH.nil
        go_simp
        (go_at_call 27; refine (hW _).mono ?_; rintro e u2 ⟨rfl, y2⟩)
        refine hK.out _ _ (by (try dsimp only); skip) (fun hHeld => ?_)
        clear hK K
        (try simp only [Act.put, List.setIfInBounds_toArray, List.set_cons_zero, List.set_cons_succ])
        clear hW
        replace k0 := k0.trans y2 (by simp); replace D1 := y2.blk D1 (by simp); replace D2 := y2.blk D2 (by simp); replace D3 := y2.blk D3 (by simp); replace J := J.chg y2 (by simp)
        clear y2
        obtain ⟨q0, q1, q2, q3, q4, q5, q6⟩ := blk7 D3
        obtain ⟨g0, g1, g2, g3, g4, g5, g6⟩ := blk7f D3
        refine wpAnyH_ready (rs := [6]) (by kernel_rfl) (by simp) ?_; refine AllReadyH.cons (o := _) rfl (fun K hK => ?_) AllReadyH.nil
        go_simp
        skip
        refine hK.out _ _ (by (try dsimp only); skip) (fun hHeld => ?_)
        clear hK K
        (try simp only [Act.put, List.setIfInBounds_toArray, List.set_cons_zero, List.set_cons_succ])
        refine wpAnyH_done (by kernel_rfl) ?_ _
        refine NoPanic.normal ?_
        clear q0 q1 q2 q3 q4 q5 q6 g0 g1 g2 g3 g4 g5 g6
        have E3 := set7 (y0 := .int .i64 Y.what) (y1 := .bool Y.user) (y2 := .int .u64 Y.a) (y3 := .int .u64 Y.v) (y4 := .int .i64 Y.g) (y5 := .int .i64 Y.i) (y6 := .int .i64 Y.n) D3
        have hch : Chg [w.heap.size + 1 + 1] u2 _ := chg7 (y0 := .int .i64 Y.what) (y1 := .bool Y.user) (y2 := .int .u64 Y.a) (y3 := .int .u64 Y.v) (y4 := .int .i64 Y.g) (y5 := .int .i64 Y.i) (y6 := .int .i64 Y.n) (g := w.heap.size + 1 + 1) (Chg.refl _ u2) (fun _ => by simp)
        go_wp2_with fail
        go_roundg ((partsC o.what).length - (k + 1))
        case measure => omega
        case rel => exact ⟨k + 1, by omega, by omega, hch.blk D1 (by simp; omega), hch.blk D2 (by simp), by rw [hY.out]; exact E3, J.chg hch (by simp; have := hsz.out; omega), k0.trans hch (fun i hi hm => by simp at hm; omega)⟩
      · (obtain ⟨v0, v1, v2, v3, v4, v5, v6⟩ := blk7 D1)
        go_simp
        skip
        refine hK.out _ _ (by (try dsimp only); skip) (fun hHeld => ?_)
        clear hK K
        (try simp only [Act.put, List.setIfInBounds_toArray, List.set_cons_zero, List.set_cons_succ])
        clear v0 v1 v2 v3 v4 v5 v6
        refine wpAnyH_ready (rs := [0, 4]) (by kernel_rfl) (by simp) ?_; refine AllReadyH.cons (o := _) rfl (fun K hK => ?_) (AllReadyH.cons (o := _) rfl (fun K hK => ?_) AllReadyH.nil)
        · (obtain ⟨x0, x1, x2, x3, x4, x5, x6⟩ := blk7 D3)
          go_simp
          skip
          refine hK.out _ _ (by (try dsimp only); skip) (fun hHeld => ?_)
          clear hK K
          (try simp only [Act.put, List.setIfInBounds_toArray, List.set_cons_zero, List.set_cons_succ])
          clear x0 x1 x2 x3 x4 x5 x6
          refine wpAnyH_ready (rs := [4]) (by kernel_rfl) (by simp) ?_; refine AllReadyH.cons (o := _) rfl (fun K hK => ?_) AllReadyH.nil
          go_simp
          (go_at_call 30; refine (hV _).mono ?_; rintro e u1 ⟨rfl, y1⟩)
          refine hK.out _ _ (by (try dsimp only); skip) (fun hHeld => ?_)
          clear hK K
          (try simp only [Act.put, List.setIfInBounds_toArray, List.set_cons_zero, List.set_cons_succ])
          clear hV
          replace k0 := k0.trans y1 (by simp); replace D1 := y1.blk D1 (by simp); replace D2 := y1.blk D2 (by simp); replace D3 := y1.blk D3 (by simp); replace J := J.chg y1 (by simp)
          clear y1
          refine wpAnyH_ready (rs := [5]) (by kernel_rfl) (by simp) ?_; refine AllReadyH.cons (o := _) rfl (fun K hK => ?_) AllReadyH.nil
          go_simp
          (go_at_call 27; refine (hW _).mono ?_; rintro e u2 ⟨rfl, y2⟩)
          refine hK.out _ _ (by (try dsimp only); skip) (fun hHeld => ?_)
          clear hK K
          (try simp only [Act.put, List.setIfInBounds_toArray, List.set_cons_zero, List.set_cons_succ])
          clear hW
          replace k0 := k0.trans y2 (by simp); replace D1 := y2.blk D1 (by simp); replace D2 := y2.blk D2 (by simp); replace D3 := y2.blk D3 (by simp); replace J := J.chg y2 (by simp)
          clear y2
          obtain ⟨q0, q1, q2, q3, q4, q5, q6⟩ := blk7 D3
          obtain ⟨g0, g1, g2, g3, g4, g5, g6⟩ := blk7f D3
          refine wpAnyH_ready (rs := [6]) (by kernel_rfl) (by simp) ?_; refine AllReadyH.cons (o := _) rfl (fun K hK => ?_) AllReadyH.nil
          go_simp
          skip
          refine hK.out _ _ (by (try dsimp only); skip) (fun hHeld => ?_)
          clear hK K
          (try simp only [Act.put, List.setIfInBounds_toArray, List.set_cons_zero, List.set_cons_succ])
          refine wpAnyH_done (by kernel_rfl) ?_ _
          refine NoPanic.normal ?_
          clear q0 q1 q2 q3 q4 q5 q6 g0 g1 g2 g3 g4 g5 g6
          have E3 := set7 (y0 := .int .i64 Y.what) (y1 := .bool Y.user) (y2 := .int .u64 Y.a) (y3 := .int .u64 Y.v) (y4 := .int .i64 Y.g) (y5 := .int .i64 Y.i) (y6 := .int .i64 Y.n) D3
          have hch : Chg [w.heap.size + 1 + 1] u2 _ := chg7 (y0 := .int .i64 Y.what) (y1 := .bool Y.user) (y2 := .int .u64 Y.a) (y3 := .int .u64 Y.v) (y4 := .int .i64 Y.g) (y5 := .int .i64 Y.i) (y6 := .int .i64 Y.n) (g := w.heap.size + 1 + 1) (Chg.refl _ u2) (fun _ => by simp)
          go_wp2_with fail
          go_roundg ((partsC o.what).length - (k + 1))
          case measure => omega
          case rel => exact ⟨k + 1, by omega, by omega, hch.blk D1 (by simp; omega), hch.blk D2 (by simp), by rw [hY.out]; exact E3, J.chg hch (by simp; have := hsz.out; omega), k0.trans hch (fun i hi hm => by simp at hm; omega)⟩
        · go_simp
          (go_at_call 30; refine (hV _).mono ?_; rintro e u1 ⟨rfl, y1⟩)
          refine hK.out _ _ (by (try dsimp only); skip) (fun hHeld => ?_)
          clear hK K
          (try simp only [Act.put, List.setIfInBounds_toArray, List.set_cons_zero, List.set_cons_succ])
          clear hV
          replace k0 := k0.trans y1 (by simp); replace D1 := y1.blk D1 (by simp); replace D2 := y1.blk D2 (by simp); replace D3 := y1.blk D3 (by simp); replace J := J.chg y1 (by simp)
          clear y1
          (obtain ⟨x0, x1, x2, x3, x4, x5, x6⟩ := blk7 D3)
          refine wpAnyH_ready (rs := [0]) (by kernel_rfl) (by simp) ?_; refine AllReadyH.cons (o := _) rfl (fun K hK => ?_) AllReadyH.nil
          go_simp
          skip
          refine hK.out _ _ (by (try dsimp only); skip) (fun hHeld => ?_)
          clear hK K
          (try simp only [Act.put, List.setIfInBounds_toArray, List.set_cons_zero, List.set_cons_succ])
          clear x0 x1 x2 x3 x4 x5 x6
          refine wpAnyH_ready (rs := [5]) (by kernel_rfl) (by simp) ?_; refine AllReadyH.cons (o := _) rfl (fun K hK => ?_) AllReadyH.nil
          go_simp
          (go_at_call 27; refine (hW _).mono ?_; rintro e u2 ⟨rfl, y2⟩)
          refine hK.out _ _ (by (try dsimp only); skip) (fun hHeld => ?_)
          clear hK K
          (try simp only [Act.put, List.setIfInBounds_toArray, List.set_cons_zero, List.set_cons_succ])
          clear hW
          replace k0 := k0.trans y2 (by simp); replace D1 := y2.blk D1 (by simp); replace D2 := y2.blk D2 (by simp); replace D3 := y2.blk D3 (by simp); replace J := J.chg y2 (by simp)
          clear y2
          obtain ⟨q0, q1, q2, q3, q4, q5, q6⟩ := blk7 D3
          obtain ⟨g0, g1, g2, g3, g4, g5, g6⟩ := blk7f D3
          refine wpAnyH_ready (rs := [6]) (by kernel_rfl) (by simp) ?_; refine AllReadyH.cons (o := _) rfl (fun K hK => ?_) AllReadyH.nil
          go_simp
          skip
          refine hK.out _ _ (by (try dsimp only); skip) (fun hHeld => ?_)
          clear hK K
          (try simp only [Act.put, List.setIfInBounds_toArray, List.set_cons_zero, List.set_cons_succ])
          refine wpAnyH_done (by kernel_rfl) ?_ _
          refine NoPanic.normal ?_
          clear q0 q1 q2 q3 q4 q5 q6 g0 g1 g2 g3 g4 g5 g6
          have E3 := set7 (y0 := .int .i64 Y.what) (y1 := .bool Y.user) (y2 := .int .u64 Y.a) (y3 := .int .u64 Y.v) (y4 := .int .i64 Y.g) (y5 := .int .i64 Y.i) (y6 := .int .i64 Y.n) D3
          have hch : Chg [w.heap.size + 1 + 1] u2 _ := chg7 (y0 := .int .i64 Y.what) (y1 := .bool Y.user) (y2 := .int .u64 Y.a) (y3 := .int .u64 Y.v) (y4 := .int .i64 Y.g) (y5 := .int .i64 Y.i) (y6 := .int .i64 Y.n) (g := w.heap.size + 1 + 1) (Chg.refl _ u2) (fun _ => by simp)
          go_wp2_with fail
          go_roundg ((partsC o.what).length - (k + 1))
          case measure => omega
          case rel => exact ⟨k + 1, by omega, by omega, hch.blk D1 (by simp; omega), hch.blk D2 (by simp), by rw [hY.out]; exact E3, J.chg hch (by simp; have := hsz.out; omega), k0.trans hch (fun i hi hm => by simp at hm; omega)⟩
    · have hkk : k = (partsC o.what).length := by omega
      subst hkk
      have hN := fun ty => run_next0 I (Nat.le_refl _) ty
      generalize hX : onlyK o (partsC o.what).length = X at *
      replace hX := Lib.hid hX
      simp only [Sop.ar] at C3
      obtain ⟨x0, x1, x2, x3, x4, x5, x6⟩ := blk7 C3
      obtain ⟨q0, q1, q2, q3, q4, q5, q6⟩ := blk7 C2
      obtain ⟨g0, g1, g2, g3, g4, g5, g6⟩ := blk7f C2
      go_wp2_with fail
      have E3 := set7 (y0 := .int .i64 X.what) (y1 := .bool X.user) (y2 := .int .u64 X.a) (y3 := .int .u64 X.v) (y4 := .int .i64 X.g) (y5 := .int .i64 X.i) (y6 := .int .i64 X.n) C2
      have hch : Chg [w.heap.size + 1] wr _ := chg7 (y0 := .int .i64 X.what) (y1 := .bool X.user) (y2 := .int .u64 X.a) (y3 := .int .u64 X.v) (y4 := .int .i64 X.g) (y5 := .int .i64 X.i) (y6 := .int .i64 X.n) (g := w.heap.size + 1) (Chg.refl _ wr) (fun _ => by simp)
      exact bodyPost_ret (cell_ret rfl E3 rfl Try.underlying31 rfl (by kernel_rfl)) rfl ⟨by rw [hX.out], h0.trans hch (fun i hi hm => by simp at hm; omega)⟩
theorem same_chg {P : Program} {f : FuncId} {args : Array Value} {w : World} {v : Value} (h : Calls P f args w fun e w' => e = .returned v ∧ w = w') : Calls P f args w fun e w' => e = .returned v ∧ Chg [] w w' :=
  h.mono fun _ _ ⟨he, hw⟩ => ⟨he, hw ▸ Chg.refl [] w⟩
set_option maxRecDepth 100000 in
set_option maxHeartbeats 2000000 in
theorem ScRight_any (o : Sop) (w : World) : Calls Try.prog 13 #[.agg o.ar] w fun e w' => e = .returned (.bool (rightS o)) ∧ Chg [] w w' := by
  have hO := fun (h : smallS o = true) w9 => ScOnly_any o h w9
  have hEq := fun x w9 => run_eqS x o w9
  have hR := right_small o
  have hoa := only_all o
  have hG := fun w9 => ScIn_any o.g 256 w9
  have hN := fun w9 => ScIn_any o.n 256 w9
  have hI := fun w9 => ScIn_any o.i 8 w9
  have hW := fun w9 => same_chg (ScIn_any o.what 9 w9)
  unfold smallS at hO hR
  rw [hR]
  clear hR
  generalize onlyK o (partsC o.what).length = X at *
  simp only [Sop.ar] at hO hEq ⊢
  have hb := Blk.new w 31 #[.int .i64 o.what, .bool o.user, .int .u64 o.a, .int .u64 o.v, .int .i64 o.g, .int .i64 o.i, .int .i64 o.n]
  have k0 : Chg [] w (w.alloc (.cells #[.int .i64 o.what, .bool o.user, .int .u64 o.a, .int .u64 o.v, .int .i64 o.g, .int .i64 o.i, .int .i64 o.n] 31)) := (Chg.refl [] w).alloc _
  obtain ⟨c0, c1, c2, c3, c4, c5, c6⟩ := blk7 hb
  generalize hg' : decide (0 ≤ o.g ∧ o.g < 256) = bG at *
  generalize hn' : decide (0 ≤ o.n ∧ o.n < 256) = bN at *
  generalize hi' : decide (0 ≤ o.i ∧ o.i < 8) = bI at *
  generalize hw' : decide (0 ≤ o.what ∧ o.what < 9) = bW at *
  clear hg' hn' hi' hw'
  generalize ownS o = ow at *
  go_enter Try.func13, Try.ntmps13
  go_wp2_with fail
  refine (hG _).mono ?_; rintro e w9 ⟨rfl, rfl⟩
  cases bG
  · go_wp2_with fail
    generalize hwg : w.alloc (.cells #[.int .i64 o.what, .bool o.user, .int .u64 o.a, .int .u64 o.v, .int .i64 o.g, .int .i64 o.i, .int .i64 o.n] 31) = w1 at *
    generalize w.heap.size = g at *
    clear hwg c0 c1 c2 c3 c4 c5 c6
    have d0 := fun n : Cls w1 => (blk7 (n.blk hb)).1
    have d1 := fun n : Cls w1 => (blk7 (n.blk hb)).2.1
    have d2 := fun n : Cls w1 => (blk7 (n.blk hb)).2.2.1
    have d3 := fun n : Cls w1 => (blk7 (n.blk hb)).2.2.2.1
    have d4 := fun n : Cls w1 => (blk7 (n.blk hb)).2.2.2.2.1
    have d5 := fun n : Cls w1 => (blk7 (n.blk hb)).2.2.2.2.2.1
    have d6 := fun n : Cls w1 => (blk7 (n.blk hb)).2.2.2.2.2.2
    clear hO hEq
    clear hoa
    cases bW
    · refine wp_region_cls (by kernel_rfl) (by kernel_rfl) ?_
      repeat (go_big_quiet_step (first | (go_at_call 22; with_reducible exact Calls.cls (hW _))))
      refine wpQuiet_nil ?_
      rintro _ ⟨n, rfl⟩
      go_wp2_with fail
      go_ret
      exact ⟨rfl, k0.trans n.ok (by simp)⟩
    · refine wp_region_cls (by kernel_rfl) (by kernel_rfl) ?_
      repeat (go_big_quiet_step (first | (go_at_call 22; with_reducible exact Calls.cls (hW _))))
      refine wpQuiet_nil ?_
      rintro _ ⟨n, rfl⟩
      go_wp2_with fail
      go_ret
      exact ⟨rfl, k0.trans n.ok (by simp)⟩
  · go_wp2_with fail
    refine (hN _).mono ?_; rintro e w9 ⟨rfl, rfl⟩
    cases bN
    · go_wp2_with fail
      generalize hwg : w.alloc (.cells #[.int .i64 o.what, .bool o.user, .int .u64 o.a, .int .u64 o.v, .int .i64 o.g, .int .i64 o.i, .int .i64 o.n] 31) = w1 at *
      generalize w.heap.size = g at *
      clear hwg c0 c1 c2 c3 c4 c5 c6
      have d0 := fun n : Cls w1 => (blk7 (n.blk hb)).1
      have d1 := fun n : Cls w1 => (blk7 (n.blk hb)).2.1
      have d2 := fun n : Cls w1 => (blk7 (n.blk hb)).2.2.1
      have d3 := fun n : Cls w1 => (blk7 (n.blk hb)).2.2.2.1
      have d4 := fun n : Cls w1 => (blk7 (n.blk hb)).2.2.2.2.1
      have d5 := fun n : Cls w1 => (blk7 (n.blk hb)).2.2.2.2.2.1
      have d6 := fun n : Cls w1 => (blk7 (n.blk hb)).2.2.2.2.2.2
      clear hO hEq
      clear hoa
      cases bW
      · refine wp_region_cls (by kernel_rfl) (by kernel_rfl) ?_
        repeat (go_big_quiet_step (first | (go_at_call 22; with_reducible exact Calls.cls (hW _))))
        refine wpQuiet_nil ?_
        rintro _ ⟨n, rfl⟩
        go_wp2_with fail
        go_ret
        exact ⟨rfl, k0.trans n.ok (by simp)⟩
      · refine wp_region_cls (by kernel_rfl) (by kernel_rfl) ?_
        repeat (go_big_quiet_step (first | (go_at_call 22; with_reducible exact Calls.cls (hW _))))
        refine wpQuiet_nil ?_
        rintro _ ⟨n, rfl⟩
        go_wp2_with fail
        go_ret
        exact ⟨rfl, k0.trans n.ok (by simp)⟩
    · go_wp2_with fail
      refine (hI _).mono ?_; rintro e w9 ⟨rfl, rfl⟩
      cases bI
      · go_wp2_with fail
        generalize hwg : w.alloc (.cells #[.int .i64 o.what, .bool o.user, .int .u64 o.a, .int .u64 o.v, .int .i64 o.g, .int .i64 o.i, .int .i64 o.n] 31) = w1 at *
        generalize w.heap.size = g at *
        clear hwg c0 c1 c2 c3 c4 c5 c6
        have d0 := fun n : Cls w1 => (blk7 (n.blk hb)).1
        have d1 := fun n : Cls w1 => (blk7 (n.blk hb)).2.1
        have d2 := fun n : Cls w1 => (blk7 (n.blk hb)).2.2.1
        have d3 := fun n : Cls w1 => (blk7 (n.blk hb)).2.2.2.1
        have d4 := fun n : Cls w1 => (blk7 (n.blk hb)).2.2.2.2.1
        have d5 := fun n : Cls w1 => (blk7 (n.blk hb)).2.2.2.2.2.1
        have d6 := fun n : Cls w1 => (blk7 (n.blk hb)).2.2.2.2.2.2
        clear hO hEq
        clear hoa
        cases bW
        · refine wp_region_cls (by kernel_rfl) (by kernel_rfl) ?_
          repeat (go_big_quiet_step (first | (go_at_call 22; with_reducible exact Calls.cls (hW _))))
          refine wpQuiet_nil ?_
          rintro _ ⟨n, rfl⟩
          go_wp2_with fail
          go_ret
          exact ⟨rfl, k0.trans n.ok (by simp)⟩
        · refine wp_region_cls (by kernel_rfl) (by kernel_rfl) ?_
          repeat (go_big_quiet_step (first | (go_at_call 22; with_reducible exact Calls.cls (hW _))))
          refine wpQuiet_nil ?_
          rintro _ ⟨n, rfl⟩
          go_wp2_with fail
          go_ret
          exact ⟨rfl, k0.trans n.ok (by simp)⟩
      · go_wp2_with fail
        generalize hwg : w.alloc (.cells #[.int .i64 o.what, .bool o.user, .int .u64 o.a, .int .u64 o.v, .int .i64 o.g, .int .i64 o.i, .int .i64 o.n] 31) = w1 at *
        generalize w.heap.size = g at *
        clear hwg c0 c1 c2 c3 c4 c5 c6
        have d0 := fun n : Cls w1 => (blk7 (n.blk hb)).1
        have d1 := fun n : Cls w1 => (blk7 (n.blk hb)).2.1
        have d2 := fun n : Cls w1 => (blk7 (n.blk hb)).2.2.1
        have d3 := fun n : Cls w1 => (blk7 (n.blk hb)).2.2.2.1
        have d4 := fun n : Cls w1 => (blk7 (n.blk hb)).2.2.2.2.1
        have d5 := fun n : Cls w1 => (blk7 (n.blk hb)).2.2.2.2.2.1
        have d6 := fun n : Cls w1 => (blk7 (n.blk hb)).2.2.2.2.2.2
        replace hO := hO rfl
        replace hEq := hEq X
        rw [hoa] at hEq
        clear hoa
        cases bW
        · refine wp_region_cls (by kernel_rfl) (by kernel_rfl) ?_
          repeat (go_big_quiet_step (first | (go_at_call 22; with_reducible exact Calls.cls (hW _)) | (go_at_call 23; with_reducible exact Calls.cls (hO _))))
          refine wpQuiet_nil ?_
          rintro _ ⟨n, rfl⟩
          go_wp2_with fail
          go_ret
          exact ⟨rfl, k0.trans n.ok (by simp)⟩
        · refine wp_region_cls (by kernel_rfl) (by kernel_rfl) ?_
          repeat (go_big_quiet_step (first | (go_at_call 22; with_reducible exact Calls.cls (hW _)) | (go_at_call 23; with_reducible exact Calls.cls (hO _))))
          refine wpQuiet_nil ?_
          rintro _ ⟨n, rfl⟩
          go_wp2_with fail
          go_ret
          exact ⟨rfl, k0.trans n.ok (by simp)⟩

end Go.Proofs.Ytdmcicgappgiiaa
