/-
  The contracts of script.put and Put.
-/
import Derived.Test.YtdmcicgappgiiaaScriptC
namespace Go.Proofs.Ytdmcicgappgiiaa
open Go.RowKit Go.Shelf

theorem OwnG.row {α : Type} {E : Enc α} {w : World} {t : TypeId} {v : Value} {L : List α} (h : OwnG E w t v L) {g : Nat} (hg : g ∈ v.ownBlock.toList) : ∃ cur, Blk w g t cur := by
  rcases h.2 with ⟨rfl, _⟩ | ⟨g', c, cur, rfl, _, hb, _⟩
  · simp [Value.ownBlock] at hg
  · simp [Value.ownBlock] at hg; subst hg; exact ⟨cur, hb⟩
theorem OwnG.far {α : Type} {E : Enc α} {w : World} {t t' : TypeId} {v : Value} {L : List α} {cs : Array Value} {g : Nat} (h : OwnG E w t v L) (hb : Blk w g t' cs) (ht : (t == t') = false) : g ∉ v.ownBlock.toList := fun hg => by
  obtain ⟨cur, hc⟩ := h.row hg
  exact Blk.type_ne hc hb ht rfl
theorem OwnG.farI {α : Type} {E : Enc α} {w : World} {t : TypeId} {v : Value} {L : List α} {s : ByteArray} {g k : Nat} (h : OwnG E w t v L) (hb : ItAt w g s k) : g ∉ v.ownBlock.toList := fun hg => by
  obtain ⟨cur, hc⟩ := h.row hg
  have := Eq.trans (Eq.symm hc) hb; cases this
theorem right_smallS {o : Sop} (h : rightS o = true) : smallS o = true := by rw [right_small] at h; simp only [Bool.and_eq_true] at h; exact h.2.1
theorem LG.far {α : Type} {E : Enc α} {w0 w w1 : World} {t : TypeId} {v : Value} {L : List α} {S : List Nat} (h : LG E w0 w t v L) (hc : Chg S w w1) (h0 : ∀ i ∈ S, w0.heap.size ≤ i) (hn : ∀ g ∈ v.ownBlock.toList, g ∉ S) : LG E w0 w1 t v L :=
  ⟨h.1.trans hc (fun i hi hm => by have := h0 i hm; omega), h.2.1.chg hc hn, h.2.2⟩
theorem sizeC_le (c : Int) : sizeC c ≤ 8 := by unfold sizeC; repeat' split
                                               all_goals omega
theorem value_u64 {o : Sop} {c : Int} (hw : o.Wf) (hs : smallS o = true) : 0 ≤ valueC o c ∧ valueC o c < 18446744073709551616 := by
  unfold smallS at hs
  simp only [Bool.and_eq_true, decide_eq_true_eq] at hs
  have := hw.a; have := hw.v
  unfold valueC
  repeat' split
  all_goals omega
theorem low_two (v : Int) (i : Nat) : lowB v (i + 1) = v / 2 ^ (8 * i) % 256 :: lowB v i := by
  rw [lowB, Int.pow_mul]; rfl
theorem flat_low (o : Sop) : ∀ l : List Int, (l.flatMap fun c => lowB (valueC o c) (sizeC c)).length ≤ 8 * l.length
  | [] => by simp
  | c :: l => by
    have ih := flat_low o l
    have := sizeC_le c
    rw [List.flatMap_cons, List.length_append, lowB_len, List.length_cons]; omega
theorem putK_le (o : Sop) (k : Nat) : (putK o k).length ≤ 25 := by
  unfold putK
  have h := flat_low o ((partsC o.what).take k)
  have h2 := parts_len o.what
  rw [List.length_take] at h
  rw [List.length_cons]; omega
theorem oneS_le (o : Sop) : (oneS o).length ≤ 20 := by
  rw [oneS_len]; unfold sizeS plV plI plG plA
  repeat' split
  all_goals omega

set_option maxRecDepth 100000 in
set_option maxHeartbeats 4000000 in
theorem ScPut1_any (o : Sop) (hr : rightS o = true) (hwf : o.Wf) {w0 w : World} (A : Option Addr) (n c : Nat) (L : List Int) (lg : LG (numE .u8) w0 w 5 (.slice A n c) L) (hn : L.length = n) (hb : n ≤ 100000000) :
    Calls Try.prog 24 #[.slice A n c, .agg o.ar] w fun e w' => ∃ A' c', e = .returned (.slice A' (L ++ oneS o).length c') ∧ LG (numE .u8) w0 w' 5 (.slice A' (L ++ oneS o).length c') (L ++ oneS o) := by
  cases hu : o.user
  · have hbd := right_bound hr
    have hsm := right_smallS hr
    have hall := Lib.hid (putK_all hr)
    have hol := oneS_le o
    have hpl := parts_len o.what
    have hp0 : Hid (putK o 0 = [o.what]) := Lib.hid (by unfold putK; rw [hu]; simp)
    have hP := fun w9 => ScParts_any o.what w9
    have hV := fun c (hc : isC c) w9 => ScValue_any o hc hsm w9
    simp only [Sop.ar, hu] at hV ⊢
    have hwt : IntKind.u8.wrap o.what = o.what := by rw [IntKind.wrap_u8]; omega
    have hwt2 : IntKind.u8.wrap (o.what + 128) = o.what + 128 := by rw [IntKind.wrap_u8]; omega
    have hv64 := fun c => value_u64 (c := c) hwf hsm
    clear hr hbd hsm hu hwf
    have B1 := Blk.new w 31 #[.int .i64 o.what, .bool false, .int .u64 o.a, .int .u64 o.v, .int .i64 o.g, .int .i64 o.i, .int .i64 o.n]
    have lg1 := lg.new ((Chg.refl [] w).alloc (.cells #[.int .i64 o.what, .bool false, .int .u64 o.a, .int .u64 o.v, .int .i64 o.g, .int .i64 o.i, .int .i64 o.n] 31))
    obtain ⟨e0, e1, e2, e3, e4, e5, e6⟩ := blk7 B1
    go_enter Try.func24, Try.ntmps24
    have lg2 := lg1.new ((Chg.refl [] _).alloc (.cells #[.int .u8 (o.what)] 5))
    have B2 := B1.alloc (.cells #[.int .u8 (o.what)] 5)
    go_wp2_with (at_builtin; refine wpList_append_G rfl _ _ 23 rfl 5 (.int .u8 0) 1 Try.underlying23 (by kernel_rfl) rfl (.slice A n c) (L) rfl (lg2.2.1) (some ⟨w.heap.size + 1, 0, none⟩) 1 1 [o.what] rfl (OwnG.src (OwnG.lit (L := [o.what]) (blk_two w (.cells #[.int .i64 o.what, .bool false, .int .u64 o.a, .int .u64 o.v, .int .i64 o.g, .int .i64 o.i, .int .i64 o.n] 31) 5 #[.int .u8 (o.what)]) (by simp))) rfl (by omega) ?_; intro v3 w3 ho3 hc3 hv3; obtain ⟨A3, c3, rfl, _, _⟩ := ho3.form; have lg3 := lg2.app ho3 hc3 hv3; have B3 := hc3.blk B2 (lg2.2.1.far B2 (by decide)); clear ho3 hc3 hv3 e0 e1 e2 e3 e4 e5 e6; obtain ⟨d0, d1, d2, d3, d4, d5, d6⟩ := blk7 B3)
    have hg0 := lg.1.size
    clear lg lg1 lg2 B1 B2
    refine (hP _).mono ?_; rintro e w4 ⟨rfl, rfl⟩
    clear hP d0 d1 d2 d3 d4 d5 d6
    go_wp2_with fail
    have hIt := ItAt.new w3 (partsB o.what)
    have lg4 := lg3.new (chg_iter (Chg.refl [] w3) (partsB o.what) 0)
    have B4 : Blk (w3.iter (partsB o.what) 0) w.heap.size 31 #[.int .i64 o.what, .bool false, .int .u64 o.a, .int .u64 o.v, .int .i64 o.g, .int .i64 o.i, .int .i64 o.n] := B3.alloc _
    have hlt3 := B3.lt
    clear lg3 B3
    have hg3 : w0.heap.size ≤ w3.heap.size := by omega
    go_loopg [0, 7, 8, 9] 4 (fun gg s0 s7 s8 s9 wr => ∃ (k : Nat) (A' : Option Addr) (m' c' : Nat) (M : List Int), k ≤ (partsC o.what).length ∧ (partsC o.what).length - k ≤ gg ∧ s0 = .slice A' m' c' ∧ Aside (m' = M.length) ∧ Aside (M = L ++ putK o k) ∧ Aside (LG (numE .u8) w0 wr 5 (.slice A' m' c') M) ∧ Aside (Blk wr w.heap.size 31 #[.int .i64 o.what, .bool false, .int .u64 o.a, .int .u64 o.v, .int .i64 o.g, .int .i64 o.i, .int .i64 o.n]) ∧ Aside (ItAt wr w3.heap.size (partsB o.what) k))
    case atStart => exact ⟨0, A3, n + 1, c3, L ++ [o.what], by omega, by omega, rfl, by show n + 1 = _; simp [hn], (by rw [hp0.out]; rfl), lg4.len_ (by simp [hn]), B4, hIt⟩
    case round =>
      clear lg4 B4 hIt
      obtain ⟨k, A', m', c', M, hk, hg, rfl, hm, hM, lg, B, I⟩ := hrel
      replace lg := lg.out; replace B := B.out; replace I := I.out
      by_cases hlt : k < (partsC o.what).length
      · obtain ⟨c9, hx⟩ : ∃ c, (partsC o.what)[k]? = some c := ⟨_, List.getElem?_eq_getElem hlt⟩
        have hic := parts_is _ c9 (List.mem_of_getElem? hx)
        have hN := fun ty => run_next I hx ty
        have hst := Lib.hid (putK_succ hx)
        have hV := hV c9 hic
        have hS := fun w9 => ScSize_any hic w9
        have hsz8 : sizeC c9 ≤ 8 := sizeC_le c9
        have hv64 := hv64 c9
        clear hic
        have lg1 := lg.far (chg_iterAt (Chg.refl [w3.heap.size] wr) (g := w3.heap.size) (by simp) (partsB o.what) (k + 1)) (by simp; omega) (fun g hg => by have := lg.2.1.farI I; intro e; simp at e; subst e; exact this hg)
        have B1 := blk_iterAt B I (k + 1); have J := I.on (j := k + 1)
        clear lg B I hx
        generalize valueC o c9 = vc at *
        generalize hsz : sizeC c9 = sz at *
        replace hsz := Lib.hid hsz
        obtain ⟨e0, e1, e2, e3, e4, e5, e6⟩ := blk7 B1
        go_wp2_with fail
        clear hN
        generalize wr.iterAt w3.heap.size (partsB o.what) (k + 1) = w5 at *
        refine (hV _).mono ?_; rintro e w6 ⟨rfl, y6⟩
        clear hV e0 e1 e2 e3 e4 e5 e6
        have lg6 := lg1.new y6; have B6 := y6.blk B1 (by simp); have J6 := J.chg y6 (by simp)
        clear lg1 B1 J y6
        go_wp2_with fail
        refine (hS _).mono ?_; rintro e w7 ⟨rfl, rfl⟩
        clear hS
        go_wp2_with fail
        go_loopg [0, 9] 8 (fun gg s0 s9 wr => ∃ (j : Nat) (z : Int) (A' : Option Addr) (m' c' : Nat) (N : List Int), j ≤ gg ∧ Aside (j ≤ 8) ∧ Aside (z = j - 1) ∧ s0 = .slice A' m' c' ∧ s9 = .int .i64 z ∧ Aside (m' = N.length) ∧ Aside (N ++ lowB vc j = L ++ putK o (k + 1)) ∧ Aside (LG (numE .u8) w0 wr 5 (.slice A' m' c') N) ∧ Aside (Blk wr w.heap.size 31 #[.int .i64 o.what, .bool false, .int .u64 o.a, .int .u64 o.v, .int .i64 o.g, .int .i64 o.i, .int .i64 o.n]) ∧ Aside (ItAt wr w3.heap.size (partsB o.what) (k + 1)))
        case atStart => exact ⟨sz, _, A', m', c', M, by omega, hsz8, rfl, rfl, rfl, hm, (by rw [hst.out, hM.out, List.append_assoc]; rfl), lg6, B6, J6⟩
        case round =>
          clear lg6 B6 J6 hm hM hst hsz hsz8 M
          obtain ⟨j, z, A', m', c', N, hjg, hj8, hz, rfl, rfl, hm, hN, lg, B, I⟩ := hrel
          replace lg := lg.out; replace B := B.out; replace I := I.out; replace hz := hz.out
          by_cases hj : 0 < j
          · obtain ⟨i, rfl⟩ : ∃ i, j = i + 1 := ⟨j - 1, by omega⟩
            obtain rfl : z = (i : Int) := by omega
            clear hz
            have hi8 : i < 8 := by have := hj8.out; omega
            have hroom : N.length + 1 ≤ 200000000 := by have h1 := congrArg List.length hN.out; have h2 := putK_le o (k + 1); simp only [List.length_append] at h1; rw [hn] at h1; have := hm.out; omega
            have lg5 := lg.new ((Chg.refl [] _).alloc (.cells #[.int .u8 (vc / 2 ^ (8 * i) % 256)] 5))
            have B5 := B.alloc (.cells #[.int .u8 (vc / 2 ^ (8 * i) % 256)] 5)
            have I5 := I.chg ((Chg.refl [] wr).alloc (.cells #[.int .u8 (vc / 2 ^ (8 * i) % 256)] 5)) (by simp)
            replace hm := hm.out
            replace hm := Lib.hid hm
            go_wp2_with (at_builtin; refine wpList_append_G rfl _ _ 23 rfl 5 (.int .u8 0) 1 Try.underlying23 (by kernel_rfl) rfl (.slice A' m' c') (N) rfl (lg5.2.1) (some ⟨wr.heap.size, 0, none⟩) 1 1 [vc / 2 ^ (8 * i) % 256] rfl (OwnG.src (OwnG.lit (L := [vc / 2 ^ (8 * i) % 256]) (Blk.new wr 5 #[.int .u8 (vc / 2 ^ (8 * i) % 256)]) (by simp))) rfl (by omega) ?_; intro v8 w8 ho8 hc8 hv8; obtain ⟨A8, c8, rfl, _, _⟩ := ho8.form)
            have lg8 := lg5.app ho8 hc8 hv8
            have B8 := hc8.blk B5 (lg5.2.1.far B5 (by decide))
            have I8 := I5.chg hc8 (fun hg => lg5.2.1.farI I5 hg)
            clear lg lg5 B B5 I I5 ho8 hc8 hv8
            go_roundg i
            case measure => omega
            case rel => exact ⟨i, (i : Int) - 1, A8, N.length + 1, c8, N ++ [vc / 2 ^ (8 * i) % 256], by omega, by show i ≤ 8; omega, rfl, rfl, by go_num, (by show N.length + 1 = _; simp), (by have h := hN.out; rw [low_two] at h; show _ ++ _ = _; rw [← h]; simp), lg8.len_ (by simp), B8, I8⟩
          · obtain rfl : j = 0 := by omega
            obtain rfl : z = -1 := by omega
            clear hz
            go_wp2_with (fail)
            go_roundg ((partsC o.what).length - (k + 1))
            case measure => omega
            case rel => exact ⟨k + 1, A', m', c', N, by omega, by omega, rfl, hm, (by have h := hN.out; show N = _; simpa [lowB] using h), lg, B, I⟩
      · have hkk : k = (partsC o.what).length := by omega
        have hN := fun ty => run_next0 I (show (partsC o.what).length ≤ k by omega) ty
        subst hkk
        have hM2 := hM.out
        rw [hall.out] at hM2
        replace hM2 := Lib.hid hM2
        clear hM B
        replace hm := Lib.hid hm.out
        go_wp2_with fail
        clear hN
        go_ret
        rw [← hM2.out]
        exact ⟨A', c', by rw [hm.out]; rfl, lg.len_ hm.out⟩
  · have hbd := right_bound hr
    have hsm := right_smallS hr
    have hall := Lib.hid (putK_all hr)
    have hol := oneS_le o
    have hpl := parts_len o.what
    have hp0 : Hid (putK o 0 = [o.what + 128]) := Lib.hid (by unfold putK; rw [hu]; simp)
    have hP := fun w9 => ScParts_any o.what w9
    have hV := fun c (hc : isC c) w9 => ScValue_any o hc hsm w9
    simp only [Sop.ar, hu] at hV ⊢
    have hwt : IntKind.u8.wrap o.what = o.what := by rw [IntKind.wrap_u8]; omega
    have hwt2 : IntKind.u8.wrap (o.what + 128) = o.what + 128 := by rw [IntKind.wrap_u8]; omega
    have hv64 := fun c => value_u64 (c := c) hwf hsm
    clear hr hbd hsm hu hwf
    have B1 := Blk.new w 31 #[.int .i64 o.what, .bool true, .int .u64 o.a, .int .u64 o.v, .int .i64 o.g, .int .i64 o.i, .int .i64 o.n]
    have lg1 := lg.new ((Chg.refl [] w).alloc (.cells #[.int .i64 o.what, .bool true, .int .u64 o.a, .int .u64 o.v, .int .i64 o.g, .int .i64 o.i, .int .i64 o.n] 31))
    obtain ⟨e0, e1, e2, e3, e4, e5, e6⟩ := blk7 B1
    go_enter Try.func24, Try.ntmps24
    have lg2 := lg1.new ((Chg.refl [] _).alloc (.cells #[.int .u8 (o.what + 128)] 5))
    have B2 := B1.alloc (.cells #[.int .u8 (o.what + 128)] 5)
    go_wp2_with (at_builtin; refine wpList_append_G rfl _ _ 23 rfl 5 (.int .u8 0) 1 Try.underlying23 (by kernel_rfl) rfl (.slice A n c) (L) rfl (lg2.2.1) (some ⟨w.heap.size + 1, 0, none⟩) 1 1 [o.what + 128] rfl (OwnG.src (OwnG.lit (L := [o.what + 128]) (blk_two w (.cells #[.int .i64 o.what, .bool true, .int .u64 o.a, .int .u64 o.v, .int .i64 o.g, .int .i64 o.i, .int .i64 o.n] 31) 5 #[.int .u8 (o.what + 128)]) (by simp))) rfl (by omega) ?_; intro v3 w3 ho3 hc3 hv3; obtain ⟨A3, c3, rfl, _, _⟩ := ho3.form; have lg3 := lg2.app ho3 hc3 hv3; have B3 := hc3.blk B2 (lg2.2.1.far B2 (by decide)); clear ho3 hc3 hv3 e0 e1 e2 e3 e4 e5 e6; obtain ⟨d0, d1, d2, d3, d4, d5, d6⟩ := blk7 B3)
    have hg0 := lg.1.size
    clear lg lg1 lg2 B1 B2
    refine (hP _).mono ?_; rintro e w4 ⟨rfl, rfl⟩
    clear hP d0 d1 d2 d3 d4 d5 d6
    go_wp2_with fail
    have hIt := ItAt.new w3 (partsB o.what)
    have lg4 := lg3.new (chg_iter (Chg.refl [] w3) (partsB o.what) 0)
    have B4 : Blk (w3.iter (partsB o.what) 0) w.heap.size 31 #[.int .i64 o.what, .bool true, .int .u64 o.a, .int .u64 o.v, .int .i64 o.g, .int .i64 o.i, .int .i64 o.n] := B3.alloc _
    have hlt3 := B3.lt
    clear lg3 B3
    have hg3 : w0.heap.size ≤ w3.heap.size := by omega
    go_loopg [0, 7, 8, 9] 4 (fun gg s0 s7 s8 s9 wr => ∃ (k : Nat) (A' : Option Addr) (m' c' : Nat) (M : List Int), k ≤ (partsC o.what).length ∧ (partsC o.what).length - k ≤ gg ∧ s0 = .slice A' m' c' ∧ Aside (m' = M.length) ∧ Aside (M = L ++ putK o k) ∧ Aside (LG (numE .u8) w0 wr 5 (.slice A' m' c') M) ∧ Aside (Blk wr w.heap.size 31 #[.int .i64 o.what, .bool true, .int .u64 o.a, .int .u64 o.v, .int .i64 o.g, .int .i64 o.i, .int .i64 o.n]) ∧ Aside (ItAt wr w3.heap.size (partsB o.what) k))
    case atStart => exact ⟨0, A3, n + 1, c3, L ++ [o.what + 128], by omega, by omega, rfl, by show n + 1 = _; simp [hn], (by rw [hp0.out]; rfl), lg4.len_ (by simp [hn]), B4, hIt⟩
    case round =>
      clear lg4 B4 hIt
      obtain ⟨k, A', m', c', M, hk, hg, rfl, hm, hM, lg, B, I⟩ := hrel
      replace lg := lg.out; replace B := B.out; replace I := I.out
      by_cases hlt : k < (partsC o.what).length
      · obtain ⟨c9, hx⟩ : ∃ c, (partsC o.what)[k]? = some c := ⟨_, List.getElem?_eq_getElem hlt⟩
        have hic := parts_is _ c9 (List.mem_of_getElem? hx)
        have hN := fun ty => run_next I hx ty
        have hst := Lib.hid (putK_succ hx)
        have hV := hV c9 hic
        have hS := fun w9 => ScSize_any hic w9
        have hsz8 : sizeC c9 ≤ 8 := sizeC_le c9
        have hv64 := hv64 c9
        clear hic
        have lg1 := lg.far (chg_iterAt (Chg.refl [w3.heap.size] wr) (g := w3.heap.size) (by simp) (partsB o.what) (k + 1)) (by simp; omega) (fun g hg => by have := lg.2.1.farI I; intro e; simp at e; subst e; exact this hg)
        have B1 := blk_iterAt B I (k + 1); have J := I.on (j := k + 1)
        clear lg B I hx
        generalize valueC o c9 = vc at *
        generalize hsz : sizeC c9 = sz at *
        replace hsz := Lib.hid hsz
        obtain ⟨e0, e1, e2, e3, e4, e5, e6⟩ := blk7 B1
        go_wp2_with fail
        clear hN
        generalize wr.iterAt w3.heap.size (partsB o.what) (k + 1) = w5 at *
        refine (hV _).mono ?_; rintro e w6 ⟨rfl, y6⟩
        clear hV e0 e1 e2 e3 e4 e5 e6
        have lg6 := lg1.new y6; have B6 := y6.blk B1 (by simp); have J6 := J.chg y6 (by simp)
        clear lg1 B1 J y6
        go_wp2_with fail
        refine (hS _).mono ?_; rintro e w7 ⟨rfl, rfl⟩
        clear hS
        go_wp2_with fail
        go_loopg [0, 9] 8 (fun gg s0 s9 wr => ∃ (j : Nat) (z : Int) (A' : Option Addr) (m' c' : Nat) (N : List Int), j ≤ gg ∧ Aside (j ≤ 8) ∧ Aside (z = j - 1) ∧ s0 = .slice A' m' c' ∧ s9 = .int .i64 z ∧ Aside (m' = N.length) ∧ Aside (N ++ lowB vc j = L ++ putK o (k + 1)) ∧ Aside (LG (numE .u8) w0 wr 5 (.slice A' m' c') N) ∧ Aside (Blk wr w.heap.size 31 #[.int .i64 o.what, .bool true, .int .u64 o.a, .int .u64 o.v, .int .i64 o.g, .int .i64 o.i, .int .i64 o.n]) ∧ Aside (ItAt wr w3.heap.size (partsB o.what) (k + 1)))
        case atStart => exact ⟨sz, _, A', m', c', M, by omega, hsz8, rfl, rfl, rfl, hm, (by rw [hst.out, hM.out, List.append_assoc]; rfl), lg6, B6, J6⟩
        case round =>
          clear lg6 B6 J6 hm hM hst hsz hsz8 M
          obtain ⟨j, z, A', m', c', N, hjg, hj8, hz, rfl, rfl, hm, hN, lg, B, I⟩ := hrel
          replace lg := lg.out; replace B := B.out; replace I := I.out; replace hz := hz.out
          by_cases hj : 0 < j
          · obtain ⟨i, rfl⟩ : ∃ i, j = i + 1 := ⟨j - 1, by omega⟩
            obtain rfl : z = (i : Int) := by omega
            clear hz
            have hi8 : i < 8 := by have := hj8.out; omega
            have hroom : N.length + 1 ≤ 200000000 := by have h1 := congrArg List.length hN.out; have h2 := putK_le o (k + 1); simp only [List.length_append] at h1; rw [hn] at h1; have := hm.out; omega
            have lg5 := lg.new ((Chg.refl [] _).alloc (.cells #[.int .u8 (vc / 2 ^ (8 * i) % 256)] 5))
            have B5 := B.alloc (.cells #[.int .u8 (vc / 2 ^ (8 * i) % 256)] 5)
            have I5 := I.chg ((Chg.refl [] wr).alloc (.cells #[.int .u8 (vc / 2 ^ (8 * i) % 256)] 5)) (by simp)
            replace hm := hm.out
            replace hm := Lib.hid hm
            go_wp2_with (at_builtin; refine wpList_append_G rfl _ _ 23 rfl 5 (.int .u8 0) 1 Try.underlying23 (by kernel_rfl) rfl (.slice A' m' c') (N) rfl (lg5.2.1) (some ⟨wr.heap.size, 0, none⟩) 1 1 [vc / 2 ^ (8 * i) % 256] rfl (OwnG.src (OwnG.lit (L := [vc / 2 ^ (8 * i) % 256]) (Blk.new wr 5 #[.int .u8 (vc / 2 ^ (8 * i) % 256)]) (by simp))) rfl (by omega) ?_; intro v8 w8 ho8 hc8 hv8; obtain ⟨A8, c8, rfl, _, _⟩ := ho8.form)
            have lg8 := lg5.app ho8 hc8 hv8
            have B8 := hc8.blk B5 (lg5.2.1.far B5 (by decide))
            have I8 := I5.chg hc8 (fun hg => lg5.2.1.farI I5 hg)
            clear lg lg5 B B5 I I5 ho8 hc8 hv8
            go_roundg i
            case measure => omega
            case rel => exact ⟨i, (i : Int) - 1, A8, N.length + 1, c8, N ++ [vc / 2 ^ (8 * i) % 256], by omega, by show i ≤ 8; omega, rfl, rfl, by go_num, (by show N.length + 1 = _; simp), (by have h := hN.out; rw [low_two] at h; show _ ++ _ = _; rw [← h]; simp), lg8.len_ (by simp), B8, I8⟩
          · obtain rfl : j = 0 := by omega
            obtain rfl : z = -1 := by omega
            clear hz
            go_wp2_with (fail)
            go_roundg ((partsC o.what).length - (k + 1))
            case measure => omega
            case rel => exact ⟨k + 1, A', m', c', N, by omega, by omega, rfl, hm, (by have h := hN.out; show N = _; simpa [lowB] using h), lg, B, I⟩
      · have hkk : k = (partsC o.what).length := by omega
        have hN := fun ty => run_next0 I (show (partsC o.what).length ≤ k by omega) ty
        subst hkk
        have hM2 := hM.out
        rw [hall.out] at hM2
        replace hM2 := Lib.hid hM2
        clear hM B
        replace hm := Lib.hid hm.out
        go_wp2_with fail
        clear hN
        go_ret
        rw [← hM2.out]
        exact ⟨A', c', by rw [hm.out]; rfl, lg.len_ hm.out⟩

theorem flat_succ {l : List Sop} {k : Nat} {o : Sop} (h : l[k]? = some o) : (l.take (k + 1)).flatMap oneS = (l.take k).flatMap oneS ++ oneS o := by rw [take_at h]; simp
theorem flat_le : ∀ l : List Sop, (l.flatMap oneS).length ≤ 20 * l.length
  | [] => by simp
  | o :: l => by
    have ih := flat_le l
    have := oneS_le o
    rw [List.flatMap_cons, List.length_append, List.length_cons]; omega
theorem putS_le (l : List Sop) : (putS l).length ≤ 20 * l.length := by
  unfold putS; split
  · exact flat_le l
  · simp
theorem putS_not {l : List Sop} {k : Nat} {o : Sop} (h : l[k]? = some o) (hr : rightS o = false) : putS l = [] := by
  unfold putS
  rw [if_neg]
  intro ha
  rw [List.all_eq_true] at ha
  have := ha o (List.mem_of_getElem? h)
  rw [hr] at this; cases this
theorem allr_succ {l : List Sop} {k : Nat} {o : Sop} (h : l[k]? = some o) : (l.take (k + 1)).all rightS = ((l.take k).all rightS && rightS o) := by rw [take_at h]; simp

set_option maxRecDepth 100000 in
set_option maxHeartbeats 4000000 in
theorem ScPut_any (A : Option Addr) (nn c : Nat) (l : List Sop) (w : World) (hs : SlG opE w A nn l) (hwf : ∀ o ∈ l, o.Wf) (hb : nn ≤ 1000000) :
    Calls Try.prog 15 #[.slice A nn c] w fun e w' => ∃ A' c', e = .returned (.slice A' (putS l).length c') ∧ LG (numE .u8) w w' 5 (.slice A' (putS l).length c') (putS l) := by
  have hll := Lib.hid hs.len
  go_enter Try.func15, Try.ntmps15
  go_wp2_with fail
  go_loopg [3, 8] nn (fun gg s3 s8 wr => ∃ (k : Nat) (A' : Option Addr) (m' c' : Nat) (M : List Int), k ≤ nn ∧ nn - k ≤ gg ∧ s3 = .slice A' m' c' ∧ s8 = .int .i64 k ∧ Aside (m' = M.length) ∧ Aside (M = (l.take k).flatMap oneS) ∧ Aside (LG (numE .u8) w wr 5 (.slice A' m' c') M) ∧ Aside ((l.take k).all rightS = true))
  case atStart => exact ⟨0, none, 0, 0, [], by omega, by omega, rfl, rfl, rfl, rfl, LG.none_ w _, rfl⟩
  case round =>
    obtain ⟨k, A', m', c', M, hk, hg, rfl, rfl, hm, hM, lg, hall⟩ := hrel
    replace lg := lg.out
    by_cases hlt : k < nn
    · obtain ⟨bl, off, o, rfl, hbl, hx, c0, c1, c2, c3, c4, c5, c6⟩ := SlS.get (hs.new lg.1) hlt
      have B := Blk.new wr 31 #[.int .i64 o.what, .bool o.user, .int .u64 o.a, .int .u64 o.v, .int .i64 o.g, .int .i64 o.i, .int .i64 o.n]
      have lg1 := lg.new ((Chg.refl [] wr).alloc (.cells #[.int .i64 o.what, .bool o.user, .int .u64 o.a, .int .u64 o.v, .int .i64 o.g, .int .i64 o.i, .int .i64 o.n] 31))
      have hR := fun w9 => ScRight_any o w9
      have ho := hwf o (List.mem_of_getElem? hx)
      have hbad := fun h => putS_not hx h
      have hfl := flat_succ hx
      have hal := allr_succ hx
      have hMle : M.length ≤ 20000000 := by have h := flat_le (l.take k); rw [← hM.out] at h; rw [List.length_take] at h; omega
      have hP := fun (h : rightS o = true) w9 lg9 => ScPut1_any o h ho (w0 := w) (w := w9) A' m' c' M lg9 hm.out.symm (by rw [hm.out]; omega)
      replace hm := Lib.hid hm.out
      replace hfl := Lib.hid hfl
      clear lg hx ho
      simp only [Sop.ar] at hR hP
      generalize rightS o = ro at *
      go_wp2_with fail
      generalize hw1 : wr.alloc (.cells #[.int .i64 o.what, .bool o.user, .int .u64 o.a, .int .u64 o.v, .int .i64 o.g, .int .i64 o.i, .int .i64 o.n] 31) = w1 at *
      generalize wr.heap.size = g at *
      clear hw1 c0 c1 c2 c3 c4 c5 c6
      obtain ⟨c0, c1, c2, c3, c4, c5, c6⟩ := blk7 B
      cases ro with
      | false =>
        replace hbad := Lib.hid (hbad rfl)
        clear hal hfl hP
        go_wp2_with fail
        refine (hR _).mono ?_; rintro e w2 ⟨rfl, k2⟩
        go_wp2_with fail
        go_ret
        rw [hbad.out]
        exact ⟨none, 0, rfl, lg1.1.trans k2 (by simp), OwnG.none_ _ _, by simp [Value.ownBlock]⟩
      | true =>
        replace hP := hP rfl
        replace hal : Hid ((l.take (k + 1)).all rightS = true) := Lib.hid (by rw [hal, hall.out]; rfl)
        clear hbad
        go_wp2_with fail
        refine (hR _).mono ?_; rintro e w2 ⟨rfl, k2⟩
        have B2 := k2.blk B (by simp)
        have lg2 := lg1.new k2
        clear c0 c1 c2 c3 c4 c5 c6 hR lg1 B k2
        obtain ⟨c0, c1, c2, c3, c4, c5, c6⟩ := blk7 B2
        go_wp2_with fail
        refine (hP _ lg2).mono ?_; rintro e w3 ⟨A3, c3', rfl, lg3⟩
        clear hP c0 c1 c2 c3 c4 c5 c6 lg2 B2
        obtain ⟨m3, hm3⟩ : ∃ m3, m3 = (M ++ oneS o).length := ⟨_, rfl⟩
        rw [← hm3] at lg3 ⊢
        replace hm3 := Lib.hid hm3
        go_wp2_with fail
        go_roundg (nn - (k + 1))
        case measure => omega
        case rel => exact ⟨k + 1, A3, m3, c3', M ++ oneS o, by omega, by omega, rfl, by go_num, hm3.out, (by show _ = _; rw [hfl.out, hM.out]), lg3, hal.out⟩
    · obtain rfl : k = nn := by omega
      rw [show l.take k = l from by rw [← hll.out, List.take_length]] at *
      have e : putS l = M := by unfold putS; rw [if_pos hall.out]; exact hM.out.symm
      clear hM
      replace hm := Lib.hid hm.out
      go_wp2_with fail
      go_ret
      rw [e]
      exact ⟨A', c', by rw [hm.out]; rfl, lg.len_ hm.out⟩

end Go.Proofs.Ytdmcicgappgiiaa
