/-
  TlbPlays: the walk.
-/
import Derived.Test.YtikdoldmhlbklaaTlbR
namespace Go.Proofs.Ytikdoldmhlbklaa
open Go.RowKit Go.Shelf

/-- the program's and the document's, apart, in blocks that are new since w0; nothing of F has turned -/
def TR (w0 : World) (F : List Nat) (w : World) (p n : Nat) (L : List Ht) (q m : Nat) (M : List Ht) : Prop :=
  Chg [] w0 w ∧ (∀ i ∈ F, i < w.heap.size) ∧ ∃ S T, TAt w S p n L ∧ RTAt w T q m M ∧ (∀ i ∈ S, w0.heap.size ≤ i ∧ i ∉ F) ∧ (∀ i ∈ T, w0.heap.size ≤ i ∧ i ∉ F) ∧ ∀ i ∈ S, i ∉ T
section
variable {w0 w w' : World} {F G : List Nat} {p n q m : Nat} {L M : List Ht}
theorem TR.new (h : TR w0 F w p n L q m M) (hc : Chg [] w w') : TR w0 F w' p n L q m M := by
  obtain ⟨h1, h2, S, T, h3, h4, h5, h6, h7⟩ := h
  exact ⟨h1.trans hc (by simp), fun i hi => Nat.lt_of_lt_of_le (h2 i hi) hc.size, S, T, h3.self hc, h4.self hc, h5, h6, h7⟩
theorem TR.more (h : TR w0 F w p n L q m M) (hc : Chg [] w w') (hG : ∀ i ∈ G, w.heap.size ≤ i ∧ i < w'.heap.size) : TR w0 (G ++ F) w' p n L q m M := by
  obtain ⟨h1, h2, S, T, h3, h4, h5, h6, h7⟩ := h
  refine ⟨h1.trans hc (by simp), fun i hi => ?_, S, T, h3.self hc, h4.self hc, fun i hi => ⟨(h5 i hi).1, fun hm => ?_⟩, fun i hi => ⟨(h6 i hi).1, fun hm => ?_⟩, h7⟩
  · rw [List.mem_append] at hi
    rcases hi with hi | hi
    · exact (hG i hi).2
    · exact Nat.lt_of_lt_of_le (h2 i hi) hc.size
  · rw [List.mem_append] at hm
    rcases hm with hm | hm
    · have := (hG i hm).1; have := h3.lt i hi; omega
    · exact (h5 i hi).2 hm
  · rw [List.mem_append] at hm
    rcases hm with hm | hm
    · have := (hG i hm).1; have := h4.lt i hi; omega
    · exact (h6 i hi).2 hm
theorem TR.less (h : TR w0 F w p n L q m M) (hG : ∀ i ∈ G, i ∈ F) : TR w0 G w p n L q m M := by
  obtain ⟨h1, h2, S, T, h3, h4, h5, h6, h7⟩ := h
  exact ⟨h1, fun i hi => h2 i (hG i hi), S, T, h3, h4, fun i hi => ⟨(h5 i hi).1, fun hm => (h5 i hi).2 (hG i hm)⟩, fun i hi => ⟨(h6 i hi).1, fun hm => (h6 i hi).2 (hG i hm)⟩, h7⟩
theorem TR.left {f : FuncId} {args : Array Value} {v : Value} {L' : List Ht} (h : TR w0 F w p n L q m M)
    (hc : ∀ S, TAt w S p n L → Calls Try.prog f args w fun e w' => ∃ S', e = .returned v ∧ Chg S w w' ∧ TAt w' S' p n L' ∧ Grew w S S') :
    Calls Try.prog f args w fun e w' => e = .returned v ∧ TR w0 F w' p n L' q m M ∧ Far F w w' := by
  obtain ⟨h1, h2, S, T, h3, h4, h5, h6, h7⟩ := h
  refine (hc S h3).mono fun _ w' ⟨S', he, hch, ht, hG⟩ => ⟨he, ⟨h1.trans hch (fun i hi hm => absurd (h5 i hm).1 (by omega)), fun i hi => Nat.lt_of_lt_of_le (h2 i hi) hch.size, S', T, ht, h4.chg hch (dis_symm h7), fun i hi => ?_, h6, grew_dis hG h7 h4.lt⟩, S, hch, fun i hi => (h5 i hi).2⟩
  rcases hG i hi with h | h
  · exact h5 i h
  · exact ⟨Nat.le_trans h1.size h, fun hm => absurd (h2 i hm) (by omega)⟩
theorem TR.right {f : FuncId} {args : Array Value} {v : Value} {M' : List Ht} (h : TR w0 F w p n L q m M)
    (hc : ∀ T, RTAt w T q m M → Calls Try.prog f args w fun e w' => ∃ T', e = .returned v ∧ Chg T w w' ∧ RTAt w' T' q m M' ∧ Grew w T T') :
    Calls Try.prog f args w fun e w' => e = .returned v ∧ TR w0 F w' p n L q m M' ∧ Far F w w' := by
  obtain ⟨h1, h2, S, T, h3, h4, h5, h6, h7⟩ := h
  refine (hc T h4).mono fun _ w' ⟨T', he, hch, ht, hG⟩ => ⟨he, ⟨h1.trans hch (fun i hi hm => absurd (h6 i hm).1 (by omega)), fun i hi => Nat.lt_of_lt_of_le (h2 i hi) hch.size, S, T', h3.chg hch h7, ht, h5, fun i hi => ?_, dis_symm (grew_dis hG (dis_symm h7) h3.lt)⟩, T, hch, fun i hi => (h6 i hi).2⟩
  rcases hG i hi with h | h
  · exact h6 i h
  · exact ⟨Nat.le_trans h1.size h, fun hm => absurd (h2 i hm) (by omega)⟩
/-- what only reads, of the one and of the other -/
theorem TR.readL {f : FuncId} {args : Array Value} {Q : Ending → World → Prop} (h : TR w0 F w p n L q m M) (hc : ∀ S, TAt w S p n L → Calls Try.prog f args w Q) : Calls Try.prog f args w Q := by
  obtain ⟨h1, h2, S, T, h3, h4, h5, h6, h7⟩ := h
  exact hc S h3
theorem TR.readR {f : FuncId} {args : Array Value} {Q : Ending → World → Prop} (h : TR w0 F w p n L q m M) (hc : ∀ T, RTAt w T q m M → Calls Try.prog f args w Q) : Calls Try.prog f args w Q := by
  obtain ⟨h1, h2, S, T, h3, h4, h5, h6, h7⟩ := h
  exact hc T h4
theorem TR.readLe (h : TR w0 F w p n L q m M) : L.length ≤ n := by obtain ⟨_, _, S, T, h3, _⟩ := h; exact h3.le
end
theorem cells9' {w : World} {g : Nat} {t : TypeId} {x0 x1 x2 x3 x4 x5 x6 x7 x8 : Value} (h : Blk w g t #[x0, x1, x2, x3, x4, x5, x6, x7, x8]) :
    w.cell? ⟨g, 0, none⟩ = some x0 ∧ w.cell? ⟨g, 1, none⟩ = some x1 ∧ w.cell? ⟨g, 2, none⟩ = some x2 ∧ w.cell? ⟨g, 3, none⟩ = some x3 ∧ w.cell? ⟨g, 4, none⟩ = some x4 ∧ w.cell? ⟨g, 5, none⟩ = some x5 ∧ w.cell? ⟨g, 6, none⟩ = some x6 ∧ w.cell? ⟨g, 7, none⟩ = some x7 ∧ w.cell? ⟨g, 8, none⟩ = some x8 :=
  ⟨h.cell 0, h.cell 1, h.cell 2, h.cell 3, h.cell 4, h.cell 5, h.cell 6, h.cell 7, h.cell 8⟩

set_option maxRecDepth 100000 in
set_option maxHeartbeats 40000000 in
theorem TlbPlays_walk (most : Int) (A : Option Addr) (len c : Nat) (asid page : Int) (w0 : World) (hmo : -9223372036854775808 ≤ most ∧ most ≤ 9223372036854775807) (hl : SlO w0 A len) :
    Calls Try.prog 3 #[.int .i64 most, .slice A len c, .int .i64 asid, .int .i64 page] w0 fun e w' => e = .returned (.bool true) ∧ Chg [] w0 w' := by
  have hle := hl.le
  by_cases hbad : most < 1 ∨ 512 < most
  · go_enter Try.func3, Try.ntmps3
    go_wp2_with fail
    refine (Thead_any _).mono ?_; rintro e w1 ⟨rfl, hc1⟩
    go_wp2_with fail
    refine (TNew_no most _ hbad).mono ?_; rintro e w2 ⟨rfl, rfl⟩
    go_wp2_with fail
    refine (RTNew_no most _ hbad).mono ?_; rintro e w2 ⟨rfl, rfl⟩
    clear hbad
    go_wp2_with fail
    go_ret
    exact ⟨rfl, hc1⟩
  · obtain ⟨n, rfl⟩ := Int.eq_ofNat_of_zero_le (show 0 ≤ most by omega)
    have hn1 : 1 ≤ n ∧ n ≤ 512 := by omega
    clear hbad hmo
    by_cases hbig : 300 < len
    · go_enter Try.func3, Try.ntmps3
      go_wp2_with fail
      refine (Thead_any _).mono ?_; rintro e w1 ⟨rfl, hc1⟩
      go_wp2_with fail
      refine (TNew_in n _ hn1.1 hn1.2).mono ?_; rintro e w2 ⟨rfl, hc2, h2⟩
      go_wp2_with fail
      refine (RTNew_in n _ hn1.1 hn1.2).mono ?_; rintro e w3 ⟨rfl, hc3, h3⟩
      go_wp2_with fail
      go_ret
      exact ⟨rfl, (hc1.trans hc2 (by simp)).trans hc3 (by simp)⟩
    · go_enter Try.func3, Try.ntmps3
      go_wp2_with fail
      refine (Thead_any _).mono ?_; rintro e w1 ⟨rfl, hc1⟩
      go_wp2_with fail
      refine (TNew_in n _ hn1.1 hn1.2).mono ?_; rintro e w2 ⟨rfl, hc2, h2⟩
      go_wp2_with fail
      refine (RTNew_in n _ hn1.1 hn1.2).mono ?_; rintro e w3 ⟨rfl, hc3, h3⟩
      have hTR : TR w0 [] w3 w1.heap.size n [] w2.heap.size n [] := ⟨(hc1.trans hc2 (by simp)).trans hc3 (by simp), by simp, _, _, h2.self hc3, h3, by simpa using hc1.size, by simpa using (hc1.trans hc2 (by simp)).size, by have := h2.lt w1.heap.size (by simp); simp; omega⟩
      generalize w1.heap.size = p at *
      generalize w2.heap.size = q at *
      clear hc1 hc2 hc3 h2 h3
      go_wp2_with fail
      go_loopg [12] len (fun gg s12 wr => ∃ (k : Nat) (L : List Ht), k ≤ len ∧ len - k ≤ gg ∧ s12 = .int .i64 k ∧ Aside (TR w0 [] wr p n L q n L) ∧ Aside (L.length ≤ 512))
      case atStart => exact ⟨0, [], by omega, by omega, rfl, hTR, by show ([] : List Ht).length ≤ 512; simp⟩
      case round =>
        obtain ⟨k, L, hk, hg, rfl, HT, HLE⟩ := hrel
        clear hTR
        by_cases hlt : k < len
        · have hltz : (k : Int) < (len : Int) := by omega
          obtain ⟨b, off, x, rfl, hb, hop⟩ := (hl.new HT.out.1).get hlt
          obtain ⟨what, ⟨ha, hp, hf, hw, hu, hx, hd⟩, nn⟩ := x
          obtain ⟨c0, c1, c2, c3, c4, c5, c6, c7, c8, hwf⟩ := hop
          simp only at c0 c1 c2 c3 c4 c5 c6 c7 c8 hwf
          have hco := (Chg.refl [] wr).alloc (.cells #[.int .i64 what, .int .i64 ha, .int .i64 hp, .int .i64 hf, .bool hw, .bool hu, .bool hx, .bool hd, .int .i64 nn] 33)
          have hT1 := HT.out.more (G := [wr.heap.size]) hco (by intro i hi; simp at hi; subst hi; simp)
          rw [List.append_nil] at hT1
          have hob := Blk.new wr 33 #[.int .i64 what, .int .i64 ha, .int .i64 hp, .int .i64 hf, .bool hw, .bool hu, .bool hx, .bool hd, .int .i64 nn]
          obtain ⟨o0, o1, o2, o3, o4, o5, o6, o7, o8⟩ := cells9' hob
          clear hco
          by_cases hw3 : what = 3
          · subst hw3
            as_aux_lemma =>
              have HL : Hid ((dropT L ha hp).length ≤ 512) := Nat.le_trans (dropT_len _ _ _) HLE.out
              have hA := hT1.left (fun S hS => (TDrop_at S p n L ha hp _ hS).mono fun _ _ ⟨he, hc, ht⟩ => ⟨S, he, hc, ht, Grew.refl _ _⟩)
              have hB := fun w3 (h3 : TR w0 [wr.heap.size] w3 p n (dropT L ha hp) q n L) => h3.right (fun T hT => RTDrop_at T q n L ha hp w3 hT)
              generalize hasT L ha hp = an at *
              go_wp2_with fail
              refine hA.mono ?_; rintro e w3 ⟨rfl, h3, hf3⟩
              have hob3 := hf3.blk hob (by simp)
              clear o0 o1 o2 o3 o4 o5 o6 o7 o8 hob hT1 hA hf3
              obtain ⟨o0, o1, o2, o3, o4, o5, o6, o7, o8⟩ := cells9' hob3
              have hB3 := hB w3 h3
              clear hB h3
              go_wp2_with fail
              refine hB3.mono ?_; rintro e w4 ⟨rfl, h4, hf4⟩
              have hob4 := hf4.blk hob3 (by simp)
              clear hB3 hob3 hf4
              go_wp2_with fail
              have hQ : TR w0 [] w4 p n (dropT L ha hp) q n (dropT L ha hp) := h4.less (by simp)
              clear h4 o0 o1 o2 o3 o4 o5 o6 o7 o8 hob4
              generalize dropT L ha hp = N at *
              have hg5 := hQ.readL (fun S hS => TGet_at S p n N asid page w4 hS)
              generalize hgx : getT N asid page = gx at *
              generalize hgb : hasT N asid page = gb at *
              have HGX := Lib.hid hgx; have HGB := Lib.hid hgb
              clear hgx hgb
              unfold Ht.v at hg5
              refine hg5.mono ?_; rintro e w5 ⟨rfl, hc5⟩
              clear hg5
              go_wp2_with fail
              have hcx := (Chg.refl [] w5).alloc (.cells #[.int .i64 gx.a, .int .i64 gx.p, .int .i64 gx.f, .bool gx.w, .bool gx.u, .bool gx.x, .bool gx.d] 31)
              have hx6 := BlkH.new w5 gx
              have hQ6 := (hQ.new hc5).new hcx
              clear hQ hc5 hcx
              generalize w5.heap.size = zx at *
              generalize w5.alloc (.cells #[.int .i64 gx.a, .int .i64 gx.p, .int .i64 gx.f, .bool gx.w, .bool gx.u, .bool gx.x, .bool gx.d] 31) = w6 at *
              have hg7 := hQ6.readR (fun T hT => RTGet_at T q n N asid page w6 hT)
              rw [HGX.out, HGB.out] at hg7
              unfold Ht.v at hg7
              refine hg7.mono ?_; rintro e w7 ⟨rfl, hc7⟩
              clear hg7
              have hcy := (Chg.refl [] w7).alloc (.cells #[.int .i64 gx.a, .int .i64 gx.p, .int .i64 gx.f, .bool gx.w, .bool gx.u, .bool gx.x, .bool gx.d] 31)
              have hy8 := BlkH.new w7 gx
              have hx8 := (hx6.chg hc7 (by simp)).chg hcy (by simp)
              have hQ8 := (hQ6.new hc7).new hcy
              clear hQ6 hx6 hc7 hcy
              obtain ⟨x0, x1, x2, x3, x4, x5, x6⟩ := hx8.cells
              obtain ⟨y0, y1, y2, y3, y4, y5, y6⟩ := hy8.cells
              have hq := fun w => run_neH gx gx w
              simp only [Ht.v, Ht.eqb_self, Bool.not_true] at hq
              clear hx8 hy8
              go_wp2_with fail
              clear x0 x1 x2 x3 x4 x5 x6 y0 y1 y2 y3 y4 y5 y6 hq
              generalize w7.alloc (.cells #[.int .i64 gx.a, .int .i64 gx.p, .int .i64 gx.f, .bool gx.w, .bool gx.u, .bool gx.x, .bool gx.d] 31) = w8 at *
              refine (hQ8.readL (fun S hS => TList_at S p n N w8 hS)).mono ?_; rintro e w9 ⟨v9, rfl, hc9, ho9, _⟩
              obtain ⟨A9, c9, rfl, _, _⟩ := ho9.form
              have hQ9 := hQ8.new hc9
              have hs9 := ho9.slh
              clear hQ8 hc9 ho9
              go_wp2_with fail
              refine (hQ9.readR (fun T hT => RTList_at T q n N w9 hT)).mono ?_; rintro e w10 ⟨v10, rfl, hc10, ho10, _⟩
              obtain ⟨A10, c10, rfl, _, _⟩ := ho10.form
              have hQ10 := hQ9.new hc10
              have hs10 := ho10.slh
              have hs9' := hs9.new hc10
              clear hQ9 hc10 ho10 hs9
              go_wp2_with fail
              have hSm := TSame_at A9 A10 _ _ c9 c10 N N _ hs9' hs10
              rw [eqHs_self] at hSm
              refine hSm.mono ?_; rintro e w11 ⟨rfl, hc11⟩
              have hQ11 := hQ10.new hc11
              clear hQ10 hc11 hSm hs9' hs10
              go_wp2_with fail
              refine (hQ11.readL (fun S hS => TMany_at S p n N w11 hS)).mono ?_; rintro e w12 ⟨rfl, hc12⟩
              have hQ12 := hQ11.new hc12
              clear hQ11 hc12
              go_wp2_with fail
              refine (hQ12.readR (fun T hT => RTMany_at T q n N w12 hT)).mono ?_; rintro e w13 ⟨rfl, hc13⟩
              have hQ13 := hQ12.new hc13
              clear hQ12 hc13
              go_wp2_with fail
              go_roundg (len - (k + 1))
              case measure => omega
              case rel => exact ⟨k + 1, N, by omega, by omega, by go_num, hQ13, HL.out⟩
          by_cases hw4 : what = 4
          · subst hw4
            as_aux_lemma =>
              have HL : Hid ((flushT L ha).length ≤ 512) := Nat.le_trans (flushT_len _ _) HLE.out
              have hA := hT1.left (fun S hS => (TFlush_at S p n L ha _ hS).mono fun _ _ ⟨he, hc, ht⟩ => ⟨S, he, hc, ht, Grew.refl _ _⟩)
              have hB := fun w3 (h3 : TR w0 [wr.heap.size] w3 p n (flushT L ha) q n L) => h3.right (fun T hT => RTFlush_at T q n L ha w3 hT)
              go_wp2_with fail
              refine hA.mono ?_; rintro e w3 ⟨rfl, h3, hf3⟩
              have hob3 := hf3.blk hob (by simp)
              clear o0 o1 o2 o3 o4 o5 o6 o7 o8 hob hT1 hA hf3
              obtain ⟨o0, o1, o2, o3, o4, o5, o6, o7, o8⟩ := cells9' hob3
              have hB3 := hB w3 h3
              clear hB h3
              go_wp2_with fail
              refine hB3.mono ?_; rintro e w4 ⟨rfl, h4, hf4⟩
              have hob4 := hf4.blk hob3 (by simp)
              clear hB3 hob3 hf4
              go_wp2_with fail
              have hQ : TR w0 [] w4 p n (flushT L ha) q n (flushT L ha) := h4.less (by simp)
              clear h4 o0 o1 o2 o3 o4 o5 o6 o7 o8 hob4
              generalize flushT L ha = N at *
              have hg5 := hQ.readL (fun S hS => TGet_at S p n N asid page w4 hS)
              generalize hgx : getT N asid page = gx at *
              generalize hgb : hasT N asid page = gb at *
              have HGX := Lib.hid hgx; have HGB := Lib.hid hgb
              clear hgx hgb
              unfold Ht.v at hg5
              refine hg5.mono ?_; rintro e w5 ⟨rfl, hc5⟩
              clear hg5
              go_wp2_with fail
              have hcx := (Chg.refl [] w5).alloc (.cells #[.int .i64 gx.a, .int .i64 gx.p, .int .i64 gx.f, .bool gx.w, .bool gx.u, .bool gx.x, .bool gx.d] 31)
              have hx6 := BlkH.new w5 gx
              have hQ6 := (hQ.new hc5).new hcx
              clear hQ hc5 hcx
              generalize w5.heap.size = zx at *
              generalize w5.alloc (.cells #[.int .i64 gx.a, .int .i64 gx.p, .int .i64 gx.f, .bool gx.w, .bool gx.u, .bool gx.x, .bool gx.d] 31) = w6 at *
              have hg7 := hQ6.readR (fun T hT => RTGet_at T q n N asid page w6 hT)
              rw [HGX.out, HGB.out] at hg7
              unfold Ht.v at hg7
              refine hg7.mono ?_; rintro e w7 ⟨rfl, hc7⟩
              clear hg7
              have hcy := (Chg.refl [] w7).alloc (.cells #[.int .i64 gx.a, .int .i64 gx.p, .int .i64 gx.f, .bool gx.w, .bool gx.u, .bool gx.x, .bool gx.d] 31)
              have hy8 := BlkH.new w7 gx
              have hx8 := (hx6.chg hc7 (by simp)).chg hcy (by simp)
              have hQ8 := (hQ6.new hc7).new hcy
              clear hQ6 hx6 hc7 hcy
              obtain ⟨x0, x1, x2, x3, x4, x5, x6⟩ := hx8.cells
              obtain ⟨y0, y1, y2, y3, y4, y5, y6⟩ := hy8.cells
              have hq := fun w => run_neH gx gx w
              simp only [Ht.v, Ht.eqb_self, Bool.not_true] at hq
              clear hx8 hy8
              go_wp2_with fail
              clear x0 x1 x2 x3 x4 x5 x6 y0 y1 y2 y3 y4 y5 y6 hq
              generalize w7.alloc (.cells #[.int .i64 gx.a, .int .i64 gx.p, .int .i64 gx.f, .bool gx.w, .bool gx.u, .bool gx.x, .bool gx.d] 31) = w8 at *
              refine (hQ8.readL (fun S hS => TList_at S p n N w8 hS)).mono ?_; rintro e w9 ⟨v9, rfl, hc9, ho9, _⟩
              obtain ⟨A9, c9, rfl, _, _⟩ := ho9.form
              have hQ9 := hQ8.new hc9
              have hs9 := ho9.slh
              clear hQ8 hc9 ho9
              go_wp2_with fail
              refine (hQ9.readR (fun T hT => RTList_at T q n N w9 hT)).mono ?_; rintro e w10 ⟨v10, rfl, hc10, ho10, _⟩
              obtain ⟨A10, c10, rfl, _, _⟩ := ho10.form
              have hQ10 := hQ9.new hc10
              have hs10 := ho10.slh
              have hs9' := hs9.new hc10
              clear hQ9 hc10 ho10 hs9
              go_wp2_with fail
              have hSm := TSame_at A9 A10 _ _ c9 c10 N N _ hs9' hs10
              rw [eqHs_self] at hSm
              refine hSm.mono ?_; rintro e w11 ⟨rfl, hc11⟩
              have hQ11 := hQ10.new hc11
              clear hQ10 hc11 hSm hs9' hs10
              go_wp2_with fail
              refine (hQ11.readL (fun S hS => TMany_at S p n N w11 hS)).mono ?_; rintro e w12 ⟨rfl, hc12⟩
              have hQ12 := hQ11.new hc12
              clear hQ11 hc12
              go_wp2_with fail
              refine (hQ12.readR (fun T hT => RTMany_at T q n N w12 hT)).mono ?_; rintro e w13 ⟨rfl, hc13⟩
              have hQ13 := hQ12.new hc13
              clear hQ12 hc13
              go_wp2_with fail
              go_roundg (len - (k + 1))
              case measure => omega
              case rel => exact ⟨k + 1, N, by omega, by omega, by go_num, hQ13, HL.out⟩
          by_cases hw5 : what = 5
          · subst hw5
            as_aux_lemma =>
              have HL : Hid ((([] : List Ht)).length ≤ 512) := by show ([] : List Ht).length ≤ 512; simp
              have hA := hT1.left (fun S hS => TAll_at S p n L _ hS)
              have hB := fun w3 (h3 : TR w0 [wr.heap.size] w3 p n (([] : List Ht)) q n L) => h3.right (fun T hT => RTAll_at T q n L w3 hT)
              go_wp2_with fail
              refine hA.mono ?_; rintro e w3 ⟨rfl, h3, hf3⟩
              have hob3 := hf3.blk hob (by simp)
              clear o0 o1 o2 o3 o4 o5 o6 o7 o8 hob hT1 hA hf3
              obtain ⟨o0, o1, o2, o3, o4, o5, o6, o7, o8⟩ := cells9' hob3
              have hB3 := hB w3 h3
              clear hB h3
              go_wp2_with fail
              refine hB3.mono ?_; rintro e w4 ⟨rfl, h4, hf4⟩
              have hob4 := hf4.blk hob3 (by simp)
              clear hB3 hob3 hf4
              go_wp2_with fail
              have hQ : TR w0 [] w4 p n (([] : List Ht)) q n (([] : List Ht)) := h4.less (by simp)
              clear h4 o0 o1 o2 o3 o4 o5 o6 o7 o8 hob4
              generalize ([] : List Ht) = N at *
              have hg5 := hQ.readL (fun S hS => TGet_at S p n N asid page w4 hS)
              generalize hgx : getT N asid page = gx at *
              generalize hgb : hasT N asid page = gb at *
              have HGX := Lib.hid hgx; have HGB := Lib.hid hgb
              clear hgx hgb
              unfold Ht.v at hg5
              refine hg5.mono ?_; rintro e w5 ⟨rfl, hc5⟩
              clear hg5
              go_wp2_with fail
              have hcx := (Chg.refl [] w5).alloc (.cells #[.int .i64 gx.a, .int .i64 gx.p, .int .i64 gx.f, .bool gx.w, .bool gx.u, .bool gx.x, .bool gx.d] 31)
              have hx6 := BlkH.new w5 gx
              have hQ6 := (hQ.new hc5).new hcx
              clear hQ hc5 hcx
              generalize w5.heap.size = zx at *
              generalize w5.alloc (.cells #[.int .i64 gx.a, .int .i64 gx.p, .int .i64 gx.f, .bool gx.w, .bool gx.u, .bool gx.x, .bool gx.d] 31) = w6 at *
              have hg7 := hQ6.readR (fun T hT => RTGet_at T q n N asid page w6 hT)
              rw [HGX.out, HGB.out] at hg7
              unfold Ht.v at hg7
              refine hg7.mono ?_; rintro e w7 ⟨rfl, hc7⟩
              clear hg7
              have hcy := (Chg.refl [] w7).alloc (.cells #[.int .i64 gx.a, .int .i64 gx.p, .int .i64 gx.f, .bool gx.w, .bool gx.u, .bool gx.x, .bool gx.d] 31)
              have hy8 := BlkH.new w7 gx
              have hx8 := (hx6.chg hc7 (by simp)).chg hcy (by simp)
              have hQ8 := (hQ6.new hc7).new hcy
              clear hQ6 hx6 hc7 hcy
              obtain ⟨x0, x1, x2, x3, x4, x5, x6⟩ := hx8.cells
              obtain ⟨y0, y1, y2, y3, y4, y5, y6⟩ := hy8.cells
              have hq := fun w => run_neH gx gx w
              simp only [Ht.v, Ht.eqb_self, Bool.not_true] at hq
              clear hx8 hy8
              go_wp2_with fail
              clear x0 x1 x2 x3 x4 x5 x6 y0 y1 y2 y3 y4 y5 y6 hq
              generalize w7.alloc (.cells #[.int .i64 gx.a, .int .i64 gx.p, .int .i64 gx.f, .bool gx.w, .bool gx.u, .bool gx.x, .bool gx.d] 31) = w8 at *
              refine (hQ8.readL (fun S hS => TList_at S p n N w8 hS)).mono ?_; rintro e w9 ⟨v9, rfl, hc9, ho9, _⟩
              obtain ⟨A9, c9, rfl, _, _⟩ := ho9.form
              have hQ9 := hQ8.new hc9
              have hs9 := ho9.slh
              clear hQ8 hc9 ho9
              go_wp2_with fail
              refine (hQ9.readR (fun T hT => RTList_at T q n N w9 hT)).mono ?_; rintro e w10 ⟨v10, rfl, hc10, ho10, _⟩
              obtain ⟨A10, c10, rfl, _, _⟩ := ho10.form
              have hQ10 := hQ9.new hc10
              have hs10 := ho10.slh
              have hs9' := hs9.new hc10
              clear hQ9 hc10 ho10 hs9
              go_wp2_with fail
              have hSm := TSame_at A9 A10 _ _ c9 c10 N N _ hs9' hs10
              rw [eqHs_self] at hSm
              refine hSm.mono ?_; rintro e w11 ⟨rfl, hc11⟩
              have hQ11 := hQ10.new hc11
              clear hQ10 hc11 hSm hs9' hs10
              go_wp2_with fail
              refine (hQ11.readL (fun S hS => TMany_at S p n N w11 hS)).mono ?_; rintro e w12 ⟨rfl, hc12⟩
              have hQ12 := hQ11.new hc12
              clear hQ11 hc12
              go_wp2_with fail
              refine (hQ12.readR (fun T hT => RTMany_at T q n N w12 hT)).mono ?_; rintro e w13 ⟨rfl, hc13⟩
              have hQ13 := hQ12.new hc13
              clear hQ12 hc13
              go_wp2_with fail
              go_roundg (len - (k + 1))
              case measure => omega
              case rel => exact ⟨k + 1, N, by omega, by omega, by go_num, hQ13, HL.out⟩
          by_cases hw6 : what = 6
          · subst hw6
            as_aux_lemma =>
              have HL : Hid ((pickT L nn).length ≤ 512) := Nat.le_trans (List.eraseIdx_sublist _ _).length_le HLE.out
              have hA := hT1.left (fun S hS => (TPick_at S p n L nn _ hS hwf).mono fun _ _ ⟨he, hc, ht⟩ => ⟨S, he, hc, ht, Grew.refl _ _⟩)
              have hB := fun w3 (h3 : TR w0 [wr.heap.size] w3 p n (pickT L nn) q n L) => h3.right (fun T hT => (RTPick_at T q n L nn w3 hT hwf).mono fun _ _ ⟨he, hc, T', ht, hG⟩ => ⟨T', he, hc, ht, hG⟩)
              generalize (!L.isEmpty) = an at *
              go_wp2_with fail
              refine hA.mono ?_; rintro e w3 ⟨rfl, h3, hf3⟩
              have hob3 := hf3.blk hob (by simp)
              clear o0 o1 o2 o3 o4 o5 o6 o7 o8 hob hT1 hA hf3
              obtain ⟨o0, o1, o2, o3, o4, o5, o6, o7, o8⟩ := cells9' hob3
              have hB3 := hB w3 h3
              clear hB h3
              go_wp2_with fail
              refine hB3.mono ?_; rintro e w4 ⟨rfl, h4, hf4⟩
              have hob4 := hf4.blk hob3 (by simp)
              clear hB3 hob3 hf4
              go_wp2_with fail
              have hQ : TR w0 [] w4 p n (pickT L nn) q n (pickT L nn) := h4.less (by simp)
              clear h4 o0 o1 o2 o3 o4 o5 o6 o7 o8 hob4
              generalize pickT L nn = N at *
              have hg5 := hQ.readL (fun S hS => TGet_at S p n N asid page w4 hS)
              generalize hgx : getT N asid page = gx at *
              generalize hgb : hasT N asid page = gb at *
              have HGX := Lib.hid hgx; have HGB := Lib.hid hgb
              clear hgx hgb
              unfold Ht.v at hg5
              refine hg5.mono ?_; rintro e w5 ⟨rfl, hc5⟩
              clear hg5
              go_wp2_with fail
              have hcx := (Chg.refl [] w5).alloc (.cells #[.int .i64 gx.a, .int .i64 gx.p, .int .i64 gx.f, .bool gx.w, .bool gx.u, .bool gx.x, .bool gx.d] 31)
              have hx6 := BlkH.new w5 gx
              have hQ6 := (hQ.new hc5).new hcx
              clear hQ hc5 hcx
              generalize w5.heap.size = zx at *
              generalize w5.alloc (.cells #[.int .i64 gx.a, .int .i64 gx.p, .int .i64 gx.f, .bool gx.w, .bool gx.u, .bool gx.x, .bool gx.d] 31) = w6 at *
              have hg7 := hQ6.readR (fun T hT => RTGet_at T q n N asid page w6 hT)
              rw [HGX.out, HGB.out] at hg7
              unfold Ht.v at hg7
              refine hg7.mono ?_; rintro e w7 ⟨rfl, hc7⟩
              clear hg7
              have hcy := (Chg.refl [] w7).alloc (.cells #[.int .i64 gx.a, .int .i64 gx.p, .int .i64 gx.f, .bool gx.w, .bool gx.u, .bool gx.x, .bool gx.d] 31)
              have hy8 := BlkH.new w7 gx
              have hx8 := (hx6.chg hc7 (by simp)).chg hcy (by simp)
              have hQ8 := (hQ6.new hc7).new hcy
              clear hQ6 hx6 hc7 hcy
              obtain ⟨x0, x1, x2, x3, x4, x5, x6⟩ := hx8.cells
              obtain ⟨y0, y1, y2, y3, y4, y5, y6⟩ := hy8.cells
              have hq := fun w => run_neH gx gx w
              simp only [Ht.v, Ht.eqb_self, Bool.not_true] at hq
              clear hx8 hy8
              go_wp2_with fail
              clear x0 x1 x2 x3 x4 x5 x6 y0 y1 y2 y3 y4 y5 y6 hq
              generalize w7.alloc (.cells #[.int .i64 gx.a, .int .i64 gx.p, .int .i64 gx.f, .bool gx.w, .bool gx.u, .bool gx.x, .bool gx.d] 31) = w8 at *
              refine (hQ8.readL (fun S hS => TList_at S p n N w8 hS)).mono ?_; rintro e w9 ⟨v9, rfl, hc9, ho9, _⟩
              obtain ⟨A9, c9, rfl, _, _⟩ := ho9.form
              have hQ9 := hQ8.new hc9
              have hs9 := ho9.slh
              clear hQ8 hc9 ho9
              go_wp2_with fail
              refine (hQ9.readR (fun T hT => RTList_at T q n N w9 hT)).mono ?_; rintro e w10 ⟨v10, rfl, hc10, ho10, _⟩
              obtain ⟨A10, c10, rfl, _, _⟩ := ho10.form
              have hQ10 := hQ9.new hc10
              have hs10 := ho10.slh
              have hs9' := hs9.new hc10
              clear hQ9 hc10 ho10 hs9
              go_wp2_with fail
              have hSm := TSame_at A9 A10 _ _ c9 c10 N N _ hs9' hs10
              rw [eqHs_self] at hSm
              refine hSm.mono ?_; rintro e w11 ⟨rfl, hc11⟩
              have hQ11 := hQ10.new hc11
              clear hQ10 hc11 hSm hs9' hs10
              go_wp2_with fail
              refine (hQ11.readL (fun S hS => TMany_at S p n N w11 hS)).mono ?_; rintro e w12 ⟨rfl, hc12⟩
              have hQ12 := hQ11.new hc12
              clear hQ11 hc12
              go_wp2_with fail
              refine (hQ12.readR (fun T hT => RTMany_at T q n N w12 hT)).mono ?_; rintro e w13 ⟨rfl, hc13⟩
              have hQ13 := hQ12.new hc13
              clear hQ12 hc13
              go_wp2_with fail
              go_roundg (len - (k + 1))
              case measure => omega
              case rel => exact ⟨k + 1, N, by omega, by omega, by go_num, hQ13, HL.out⟩
          have hw3' : (what == 3) = false := by simp [hw3]
          have hw4' : (what == 4) = false := by simp [hw4]
          have hw5' : (what == 5) = false := by simp [hw5]
          have hw6' : (what == 6) = false := by simp [hw6]
          clear hw3 hw4 hw5 hw6
          have HL : Hid ((putT n L ⟨ha, hp, hf, hw, hu, hx, hd⟩).length ≤ 512) := (by have := hT1.readLe; show _ ≤ 512; exact Nat.le_trans (putT_len ⟨ha, hp, hf, hw, hu, hx, hd⟩ this hn1.1) hn1.2)
          have hA := hT1.left (fun S hS => (TPut_at S p n L ⟨ha, hp, hf, hw, hu, hx, hd⟩ _ hS))
          have hB := fun w3 (h3 : TR w0 [wr.heap.size] w3 p n (putT n L ⟨ha, hp, hf, hw, hu, hx, hd⟩) q n L) => h3.right (fun T hT => (RTPut_at T q n L ⟨ha, hp, hf, hw, hu, hx, hd⟩ w3 hT).mono fun _ _ ⟨he, hc, T', ht, hG⟩ => ⟨T', he, hc, ht, hG⟩)
          simp only [Ht.v] at hA hB
          go_wp2_with fail
          refine hA.mono ?_; rintro e w3 ⟨rfl, h3, hf3⟩
          have hob3 := hf3.blk hob (by simp)
          clear o0 o1 o2 o3 o4 o5 o6 o7 o8 hob hT1 hA hf3
          obtain ⟨o0, o1, o2, o3, o4, o5, o6, o7, o8⟩ := cells9' hob3
          have hB3 := hB w3 h3
          clear hB h3
          go_wp2_with fail
          refine hB3.mono ?_; rintro e w4 ⟨rfl, h4, hf4⟩
          have hob4 := hf4.blk hob3 (by simp)
          clear hB3 hob3 hf4
          go_wp2_with fail
          have hQ : TR w0 [] w4 p n (putT n L ⟨ha, hp, hf, hw, hu, hx, hd⟩) q n (putT n L ⟨ha, hp, hf, hw, hu, hx, hd⟩) := h4.less (by simp)
          clear h4 o0 o1 o2 o3 o4 o5 o6 o7 o8 hob4
          generalize putT n L ⟨ha, hp, hf, hw, hu, hx, hd⟩ = N at *
          have hg5 := hQ.readL (fun S hS => TGet_at S p n N asid page w4 hS)
          generalize hgx : getT N asid page = gx at *
          generalize hgb : hasT N asid page = gb at *
          have HGX := Lib.hid hgx; have HGB := Lib.hid hgb
          clear hgx hgb
          unfold Ht.v at hg5
          refine hg5.mono ?_; rintro e w5 ⟨rfl, hc5⟩
          clear hg5
          go_wp2_with fail
          have hcx := (Chg.refl [] w5).alloc (.cells #[.int .i64 gx.a, .int .i64 gx.p, .int .i64 gx.f, .bool gx.w, .bool gx.u, .bool gx.x, .bool gx.d] 31)
          have hx6 := BlkH.new w5 gx
          have hQ6 := (hQ.new hc5).new hcx
          clear hQ hc5 hcx
          generalize w5.heap.size = zx at *
          generalize w5.alloc (.cells #[.int .i64 gx.a, .int .i64 gx.p, .int .i64 gx.f, .bool gx.w, .bool gx.u, .bool gx.x, .bool gx.d] 31) = w6 at *
          have hg7 := hQ6.readR (fun T hT => RTGet_at T q n N asid page w6 hT)
          rw [HGX.out, HGB.out] at hg7
          unfold Ht.v at hg7
          refine hg7.mono ?_; rintro e w7 ⟨rfl, hc7⟩
          clear hg7
          have hcy := (Chg.refl [] w7).alloc (.cells #[.int .i64 gx.a, .int .i64 gx.p, .int .i64 gx.f, .bool gx.w, .bool gx.u, .bool gx.x, .bool gx.d] 31)
          have hy8 := BlkH.new w7 gx
          have hx8 := (hx6.chg hc7 (by simp)).chg hcy (by simp)
          have hQ8 := (hQ6.new hc7).new hcy
          clear hQ6 hx6 hc7 hcy
          obtain ⟨x0, x1, x2, x3, x4, x5, x6⟩ := hx8.cells
          obtain ⟨y0, y1, y2, y3, y4, y5, y6⟩ := hy8.cells
          have hq := fun w => run_neH gx gx w
          simp only [Ht.v, Ht.eqb_self, Bool.not_true] at hq
          clear hx8 hy8
          go_wp2_with fail
          clear x0 x1 x2 x3 x4 x5 x6 y0 y1 y2 y3 y4 y5 y6 hq
          generalize w7.alloc (.cells #[.int .i64 gx.a, .int .i64 gx.p, .int .i64 gx.f, .bool gx.w, .bool gx.u, .bool gx.x, .bool gx.d] 31) = w8 at *
          refine (hQ8.readL (fun S hS => TList_at S p n N w8 hS)).mono ?_; rintro e w9 ⟨v9, rfl, hc9, ho9, _⟩
          obtain ⟨A9, c9, rfl, _, _⟩ := ho9.form
          have hQ9 := hQ8.new hc9
          have hs9 := ho9.slh
          clear hQ8 hc9 ho9
          go_wp2_with fail
          refine (hQ9.readR (fun T hT => RTList_at T q n N w9 hT)).mono ?_; rintro e w10 ⟨v10, rfl, hc10, ho10, _⟩
          obtain ⟨A10, c10, rfl, _, _⟩ := ho10.form
          have hQ10 := hQ9.new hc10
          have hs10 := ho10.slh
          have hs9' := hs9.new hc10
          clear hQ9 hc10 ho10 hs9
          go_wp2_with fail
          have hSm := TSame_at A9 A10 _ _ c9 c10 N N _ hs9' hs10
          rw [eqHs_self] at hSm
          refine hSm.mono ?_; rintro e w11 ⟨rfl, hc11⟩
          have hQ11 := hQ10.new hc11
          clear hQ10 hc11 hSm hs9' hs10
          go_wp2_with fail
          refine (hQ11.readL (fun S hS => TMany_at S p n N w11 hS)).mono ?_; rintro e w12 ⟨rfl, hc12⟩
          have hQ12 := hQ11.new hc12
          clear hQ11 hc12
          go_wp2_with fail
          refine (hQ12.readR (fun T hT => RTMany_at T q n N w12 hT)).mono ?_; rintro e w13 ⟨rfl, hc13⟩
          have hQ13 := hQ12.new hc13
          clear hQ12 hc13
          go_wp2_with fail
          go_roundg (len - (k + 1))
          case measure => omega
          case rel => exact ⟨k + 1, N, by omega, by omega, by go_num, hQ13, HL.out⟩
        · have hltz : ¬ (k : Int) < (len : Int) := by omega
          clear hlt hl
          go_wp2_with fail
          go_ret
          exact ⟨rfl, HT.out.1⟩

end Go.Proofs.Ytikdoldmhlbklaa
