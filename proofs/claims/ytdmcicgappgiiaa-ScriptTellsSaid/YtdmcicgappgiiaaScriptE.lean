/-
  The contracts of script.get and Get.
-/
import Derived.Test.YtdmcicgappgiiaaScriptD
namespace Go.Proofs.Ytdmcicgappgiiaa
open Go.RowKit Go.Shelf

/-- where a part of a slice lies -/
def cutA (A : Option Addr) (cap l s : Nat) : Option Addr := if cap = l then A else A.map (·.add (l * s))
theorem cutA_none {A : Option Addr} {cap l s : Nat} (h : cutA A cap l s = none) : A = none := by
  unfold cutA at h; split at h
  · exact h
  · simpa using h
theorem run_cut {P : Program} (t e : TypeId) (s : Nat) (ht : P.underlying t = some (.slice e)) (hz : ∀ w, (Go.sizeOf e).run P w = .ok s w) (A : Option Addr) (len cap l h : Nat) (h1 : l ≤ h) (h2 : h ≤ cap) (w : World) :
    (Instr.slice t (.slice A len cap) (some (.int .i64 l)) (some (.int .i64 h)) none).run P w = .ok (.slice (cutA A cap l s) (h - l) (cap - l)) w := by
  have hel : P.elem t = e := by simp [Program.elem, ht]
  rw [run_slice_lh w t A len cap (hel.symm ▸ ht) .i64 .i64 l h (by omega) (by omega) (by omega), hel, hz]
  simp [Result.andThen, sliced, cutA]
theorem run_from {P : Program} (t e : TypeId) (s : Nat) (ht : P.underlying t = some (.slice e)) (hz : ∀ w, (Go.sizeOf e).run P w = .ok s w) (A : Option Addr) (len cap l : Nat) (h1 : l ≤ len) (w : World) :
    (Instr.slice t (.slice A len cap) (some (.int .i64 l)) none none).run P w = .ok (.slice (cutA A cap l s) (len - l) (cap - l)) w := by
  have hel : P.elem t = e := by simp [Program.elem, ht]
  rw [run_slice_l w t A len cap (hel.symm ▸ ht) .i64 l (by omega) (by omega), hel, hz]
  simp [Result.andThen, sliced, cutA]
theorem run_upto {P : Program} (t e : TypeId) (s : Nat) (ht : P.underlying t = some (.slice e)) (hz : ∀ w, (Go.sizeOf e).run P w = .ok s w) (A : Option Addr) (len cap h : Nat) (h2 : h ≤ cap) (w : World) :
    (Instr.slice t (.slice A len cap) none (some (.int .i64 h)) none).run P w = .ok (.slice (cutA A cap 0 s) h cap) w := by
  have hel : P.elem t = e := by simp [Program.elem, ht]
  rw [run_slice_h w t A len cap (hel.symm ▸ ht) .i64 h (by omega) (by omega), hel, hz]
  simp [Result.andThen, sliced, cutA]
theorem SlG.cut {α : Type} {E : Enc α} {w : World} {A : Option Addr} {n cap : Nat} {L : List α} (h : SlG E w A n L) (l m : Nat) (h1 : l ≤ m) (h2 : m ≤ n) (hc : n ≤ cap) : SlG E w (cutA A cap l E.k) (m - l) ((L.drop l).take (m - l)) := by
  have hl := h.len
  refine ⟨by simp; omega, by have := h.le; omega, fun h0 => ?_⟩
  obtain ⟨b, off, rfl, hb, hr⟩ := h.at_ (by omega)
  refine ⟨b, off + l * E.k, by unfold cutA; rw [if_neg (by omega)]; simp [add_at], hb, fun j x hx => ?_⟩
  rw [List.getElem?_take] at hx
  split at hx
  · rw [List.getElem?_drop] at hx
    have := hr (l + j) x hx
    rwa [Nat.add_mul, ← Nat.add_assoc] at this
  · cases hx
theorem size8 (w : World) : (Go.sizeOf 5).run Try.prog w = .ok 1 w := by kernel_rfl
theorem getK_what (b : List Int) : ∀ k, (getK b k).what = whatS b
  | 0 => rfl
  | k + 1 => by
    have ih := getK_what b k
    rw [getK]
    split
    · unfold withC; repeat' split
      all_goals exact ih
    · exact ih
theorem foldl_size : ∀ (l : List Int) (n : Nat), l.foldl (fun n c => n + sizeC c) n ≤ n + 8 * l.length
  | [], n => by simp
  | c :: l, n => by
    have ih := foldl_size l (n + sizeC c)
    have := sizeC_le c
    rw [List.foldl_cons, List.length_cons]; omega
theorem atK_le (w : Int) (k : Nat) : atK w k ≤ 25 := by
  unfold atK
  have h := foldl_size ((partsC w).take k) 0
  have h2 := parts_len w
  rw [List.length_take] at h
  omega
theorem byte_small {L : List Int} {a : Nat} {c : Int} (hr : ∀ x ∈ L, 0 ≤ x ∧ x < 256) (h : c = 71 ∨ c = 73 ∨ c = 78) : 0 ≤ n8 ((L.drop a).take (sizeC c)) ∧ n8 ((L.drop a).take (sizeC c)) < 256 := by
  have e : sizeC c = 1 := by rcases h with rfl | rfl | rfl <;> rfl
  rw [e]
  have h1 : ((L.drop a).take 1).length ≤ 1 := by simp; omega
  have h2 : ∀ x ∈ (L.drop a).take 1, 0 ≤ x ∧ x < 256 := fun x hx => hr x (List.mem_of_mem_drop (List.mem_of_mem_take hx))
  generalize (L.drop a).take 1 = M at *
  match M, h1 with
  | [], _ => simp [n8]
  | [x], _ => have := h2 x (by simp); simp [n8]; omega
theorem cell_ret2 {P : Program} {fn : Func} {p q : Tmp} {ty : TypeId} (h : fn.results = #[.cell p ty, .tmp q]) {tmps : Array Value} {w : World} {g : Nat} {t : TypeId} {cs : Array Value} {d : TypeDesc} {v : Value} (hb : Blk w g t cs)
    (hp : tmps.getD p undef = .pointer (some ⟨g, 0, none⟩)) (hq : tmps.getD q undef = v) (hu : P.underlying ty = some d) (hd : (match d with | .struct _ | .array _ _ => true | _ => false) = true) (hi : (P.info? ty).map (·.size) = some cs.size) :
    (results fn tmps).run P w = .ok (.tuple #[.agg cs, v]) w := by
  have hp' : tmps[p]?.getD undef = .pointer (some ⟨g, 0, none⟩) := by simpa using hp
  have hq' : tmps[q]?.getD undef = v := by simpa using hq
  simp [results, h, hp', hq', asAddr, run_loadVar_row w g t ty cs (0, 0) d hb hu hd hi]
/-- what get answers -/
def gotO (b : List Int) : Sop := if canS b then opS b else zeroS 0
def gotN (b : List Int) : Nat := if canS b then sizeS (whatS b) else 0
theorem got_no {b : List Int} (h : canS b = false) : gotO b = zeroS 0 ∧ gotN b = 0 := by unfold gotO gotN; rw [h]; exact ⟨rfl, rfl⟩
theorem got_yes {b : List Int} (h : canS b = true) : gotO b = opS b ∧ gotN b = sizeS (whatS b) := by unfold gotO gotN; rw [h]; exact ⟨rfl, rfl⟩
theorem can_short {b : List Int} {k : Nat} (h : b.length < atK (whatS b) k) (h0 : 0 ≤ whatS b) : canS b = false := by
  unfold canS
  by_cases h8 : whatS b ≤ 8
  · have e := atK_all h0 h8
    have hmono : ∀ d j, atK (whatS b) j ≤ atK (whatS b) (j + d) := by
      intro d
      induction d with
      | zero => exact fun j => Nat.le_refl _
      | succ d ih => exact fun j => Nat.le_trans (ih j) (atK_mono _ _)
    have hle : atK (whatS b) k ≤ sizeS (whatS b) := by
      rw [← e]
      by_cases hk : k ≤ (partsC (whatS b)).length
      · have := hmono ((partsC (whatS b)).length - k) k
        rwa [Nat.add_sub_of_le hk] at this
      · unfold atK
        rw [List.take_of_length_le (by omega), List.take_length]
        exact Nat.le_refl _
    rw [decide_eq_false (p := sizeS (whatS b) ≤ b.length) (by omega)]; simp
  · rw [decide_eq_false h8]; simp
theorem can_long {b : List Int} (h : atK (whatS b) (partsC (whatS b)).length ≤ b.length) (h0 : 0 ≤ whatS b) (hl : 0 < b.length) :
    canS b = rightS { getK b (partsC (whatS b)).length with user := decide (128 ≤ b.getD 0 0) } ∧ (canS b = true → { getK b (partsC (whatS b)).length with user := decide (128 ≤ b.getD 0 0) } = opS b ∧ atK (whatS b) (partsC (whatS b)).length = sizeS (whatS b)) := by
  by_cases h8 : whatS b ≤ 8
  · have e := atK_all h0 h8
    rw [e] at h ⊢
    have e2 := getK_all h0 h8 h
    rw [e2]
    refine ⟨?_, fun _ => ⟨rfl, rfl⟩⟩
    unfold canS
    rw [decide_eq_true hl, decide_eq_true h8, decide_eq_true h]; rfl
  · have hc : canS b = false := by unfold canS; rw [decide_eq_false h8]; simp
    rw [hc]
    refine ⟨?_, fun h => by cases h⟩
    cases hR : rightS { getK b (partsC (whatS b)).length with user := decide (128 ≤ b.getD 0 0) } with
    | false => rfl
    | true =>
      have := (right_bound hR).2.1
      rw [show Sop.what { getK b (partsC (whatS b)).length with user := decide (128 ≤ b.getD 0 0) } = (getK b (partsC (whatS b)).length).what from rfl, getK_what] at this
      omega

set_option maxRecDepth 100000 in
set_option maxHeartbeats 4000000 in
theorem ScGet1_any (A : Option Addr) (m c : Nat) (L : List Int) (w : World) (hs : SlG (numE .u8) w A m L) (hm : 0 < m) (hmc : m ≤ c) (hr : ∀ x ∈ L, 0 ≤ x ∧ x < 256) :
    Calls Try.prog 18 #[.slice A m c] w fun e w' => e = .returned (.tuple #[.agg (gotO L).ar, .int .i64 (gotN L : Nat)]) ∧ Chg [] w w' := by
  have hll := Lib.hid hs.len
  obtain ⟨bl, off, x0, rfl, hbl, hx0, e0⟩ := SlN.get hs hm
  simp only [Nat.add_zero] at e0
  have hx8 := hr x0 (List.mem_of_getElem? hx0)
  have hxw : x0 % 128 = whatS L := by unfold whatS; rw [List.getD_eq_getElem?_getD, hx0]; rfl
  have hxu : decide (x0 ≥ 128) = decide (128 ≤ L.getD 0 0) := by rw [List.getD_eq_getElem?_getD, hx0]; rfl
  have hP := fun w9 => ScParts_any (whatS L) w9
  have hpl := parts_len (whatS L)
  have hw0 : 0 ≤ whatS L ∧ whatS L < 128 := by omega
  have B2 : Blk ((w.alloc (.cells #[.int .i64 0, .bool false, .int .u64 0, .int .u64 0, .int .i64 0, .int .i64 0, .int .i64 0] 31)).alloc (.cells #[.int .i64 (whatS L), .bool false, .int .u64 0, .int .u64 0, .int .i64 0, .int .i64 0, .int .i64 0] 31)) w.heap.size 31 #[.int .i64 0, .bool false, .int .u64 0, .int .u64 0, .int .i64 0, .int .i64 0, .int .i64 0] := (Blk.new w _ _).alloc _
  have B4 := blk_two w (.cells #[.int .i64 0, .bool false, .int .u64 0, .int .u64 0, .int .i64 0, .int .i64 0, .int .i64 0] 31) 31 #[.int .i64 (whatS L), .bool false, .int .u64 0, .int .u64 0, .int .i64 0, .int .i64 0, .int .i64 0]
  have k4 : Chg [] w ((w.alloc (.cells #[.int .i64 0, .bool false, .int .u64 0, .int .u64 0, .int .i64 0, .int .i64 0, .int .i64 0] 31)).alloc (.cells #[.int .i64 (whatS L), .bool false, .int .u64 0, .int .u64 0, .int .i64 0, .int .i64 0, .int .i64 0] 31)) := ((Chg.refl [] w).alloc _).alloc _
  have hsz : ((w.alloc (.cells #[.int .i64 0, .bool false, .int .u64 0, .int .u64 0, .int .i64 0, .int .i64 0, .int .i64 0] 31)).alloc (.cells #[.int .i64 (whatS L), .bool false, .int .u64 0, .int .u64 0, .int .i64 0, .int .i64 0, .int .i64 0] 31)).heap.size = w.heap.size + 1 + 1 := by simp
  replace hsz := Lib.hid hsz
  replace hx0 := Lib.hid hx0
  replace hxu := Lib.hid hxu
  generalize hwl : whatS L = wl at *
  replace hwl := Lib.hid hwl
  go_enter Try.func18, Try.ntmps18
  go_wp2_with fail
  refine (hP _).mono ?_; rintro e w2 ⟨rfl, rfl⟩
  clear hP
  generalize (w.alloc (.cells #[.int .i64 0, .bool false, .int .u64 0, .int .u64 0, .int .i64 0, .int .i64 0, .int .i64 0] 31)).alloc (.cells #[.int .i64 wl, .bool false, .int .u64 0, .int .u64 0, .int .i64 0, .int .i64 0, .int .i64 0] 31) = W at *
  have hIt := ItAt.new W (partsB wl)
  go_wp2_with fail
  go_loopg [5, 7, 8] 4 (fun gg s5 s7 s8 wr => ∃ (k a : Nat), k ≤ (partsC wl).length ∧ (partsC wl).length - k ≤ gg ∧ s5 = .int .i64 (a : Nat) ∧ Aside (a = atK wl k) ∧ Aside (a ≤ m) ∧ Aside (Blk wr w.heap.size 31 #[.int .i64 0, .bool false, .int .u64 0, .int .u64 0, .int .i64 0, .int .i64 0, .int .i64 0]) ∧ Aside (Blk wr (w.heap.size + 1) 31 (getK L k).ar) ∧ Aside (ItAt wr W.heap.size (partsB wl) k) ∧ Aside (Chg [] w wr))
  case atStart => exact ⟨0, 1, by omega, by omega, rfl, rfl, (by show 1 ≤ m; omega), B2.alloc _, (by show Blk _ _ _ (zeroS (whatS L)).ar; rw [hwl.out]; exact B4.alloc _), hIt, chg_iter k4 _ _⟩
  case round =>
    clear B2 B4 k4 hIt
    obtain ⟨k, a, hk, hg, rfl, ha, ham, C2, C4, I, h0⟩ := hrel
    replace C2 := C2.out; replace C4 := C4.out; replace I := I.out; replace h0 := h0.out
    by_cases hlt : k < (partsC wl).length
    · obtain ⟨c9, hx⟩ : ∃ c, (partsC wl)[k]? = some c := ⟨_, List.getElem?_eq_getElem hlt⟩
      have hic := parts_is _ c9 (List.mem_of_getElem? hx)
      have hN := fun ty => run_next I hx ty
      have hS := fun w9 => ScSize_any hic w9
      have hsz8 := sizeC_le c9
      have ha25 := atK_le wl k
      rw [← ha.out] at ha25
      have hgk : Hid (getK L (k + 1) = withC (getK L k) c9 (n8 ((L.drop a).take (sizeC c9)))) := Lib.hid (by have := getK_succ (b := L) (k := k) (c := c9) (by rw [hwl.out]; exact hx); rw [hwl.out, ← ha.out] at this; exact this)
      have hak : Hid (atK wl (k + 1) = a + sizeC c9) := Lib.hid (by rw [atK_succ hx, ha.out])
      have hvs := fun h => byte_small (c := c9) (L := L) (a := a) hr h
      have hic2 := Lib.hid hic
      have D2 := blk_iterAt C2 I (k + 1); have D4 := blk_iterAt C4 I (k + 1); have J := I.on (j := k + 1); have k0 := chg_iterAt h0 (g := W.heap.size) (by have := hsz.out; omega) (partsB wl) (k + 1)
      clear C2 C4 I h0 hic hx e0
      generalize hsq : sizeC c9 = sz at *
      replace hsq := Lib.hid hsq
      go_wp2_with fail
      clear hN
      generalize wr.iterAt W.heap.size (partsB wl) (k + 1) = w1 at *
      refine (hS _).mono ?_; rintro e w7 ⟨rfl, rfl⟩
      clear hS
      obtain ⟨en, hen⟩ : ∃ en, en = a + sz := ⟨_, rfl⟩
      have hsum : ((a : Int) + (sz : Int)) = (en : Int) := by omega
      have hwr : IntKind.i64.wrap ((en : Nat) : Int) = (en : Int) := by rw [IntKind.wrap_i64]; omega
      replace hen := Lib.hid hen
      by_cases hlen : m < en
      · have hcf := can_short (b := L) (k := k + 1) (by rw [hwl.out, hak.out, ← hen.out, hll.out]; exact hlen) (by rw [hwl.out]; exact hw0.1)
        clear hak
        replace hcf := Lib.hid (got_no hcf)
        obtain ⟨q0, q1, q2, q3, q4, q5, q6⟩ := blk7 D2
        obtain ⟨g0, g1, g2, g3, g4, g5, g6⟩ := blk7f D2
        go_wp2_with fail
        have E3 := set7 (y0 := .int .i64 0) (y1 := .bool false) (y2 := .int .u64 0) (y3 := .int .u64 0) (y4 := .int .i64 0) (y5 := .int .i64 0) (y6 := .int .i64 0) D2
        have hch : Chg [w.heap.size] w1 _ := chg7 (y0 := .int .i64 0) (y1 := .bool false) (y2 := .int .u64 0) (y3 := .int .u64 0) (y4 := .int .i64 0) (y5 := .int .i64 0) (y6 := .int .i64 0) (g := w.heap.size) (Chg.refl _ w1) (fun _ => by simp)
        exact bodyPost_ret (cell_ret2 rfl E3 rfl rfl Try.underlying31 rfl (by kernel_rfl)) rfl ⟨by rw [hcf.out.1, hcf.out.2]; rfl, k0.trans hch (fun i hi hm => by simp at hm; omega)⟩
      · have hea : en - a = sz := by have := hen.out; omega
        have hNum := ScNumber_any (cutA (some ⟨bl, off, none⟩) c a 1) (en - a) (c - a) ((L.drop a).take (en - a)) w1.drew ((hs.new k0.drew).cut a en (by have := hen.out; omega) (by omega) hmc) (by omega) (fun x hx => hr x (List.mem_of_mem_drop (List.mem_of_mem_take hx)))
        have hcut := fun w9 => run_cut (P := Try.prog) 23 5 1 Try.underlying23 size8 (some ⟨bl, off, none⟩) m c a en (by have := hen.out; omega) (by omega) w9
        have hW := fun w9 => ScWith_any (getK L k) hic2.out hvs w9
        rw [← hea] at hW
        rw [← hea] at hgk
        clear hvs
        replace hea := Lib.hid hea
        have hgk2 := hgk.out
        clear hgk
        generalize getK L k = X at *
        generalize n8 ((L.drop a).take (en - a)) = vc at *
        rw [← hgk2] at hW
        generalize hY : getK L (k + 1) = Y at *
        clear hgk2
        replace hY := Lib.hid hY
        simp only [Sop.ar] at hW D4
        replace k0 := k0.drew; replace D2 := D2.drew; replace D4 := D4.drew; replace J : ItAt w1.drew W.heap.size (partsB wl) (k + 1) := J
        go_wp2_with fail
        refine wp_region_noPanic ?_
        refine wp_region_held_drew (S := (fun w' => True)) (by kernel_rfl) ?_ (fun hHeld => ?_)
        · trivial
        (refine take_on 1 (some 32) (v := ?_) rfl rfl (by kernel_rfl) (by kernel_rfl) (by kernel_rfl) (fun _ _ _ h => h) (by rfl) (by assumption) ?_ ?_; rotate_left; · (intro w hSw; (try dsimp only at hSw); go_simp; (try with_reducible rfl)))
        (try simp only [Act.put, List.setIfInBounds_toArray, List.set_cons_zero, List.set_cons_succ])
        (refine take_on 2 (some 33) (v := ?_) rfl rfl (by kernel_rfl) (by kernel_rfl) (by kernel_rfl) (fun _ _ _ h => h) (by rfl) (by assumption) ?_ ?_; rotate_left; · (intro w hSw; (try dsimp only at hSw); go_simp; (try with_reducible rfl)))
        (try simp only [Act.put, List.setIfInBounds_toArray, List.set_cons_zero, List.set_cons_succ])
        (refine take_on 3 (some 34) (v := ?_) rfl rfl (by kernel_rfl) (by kernel_rfl) (by kernel_rfl) (fun _ _ _ h => h) (by rfl) (by assumption) ?_ ?_; rotate_left; · (intro w hSw; (try dsimp only at hSw); go_simp; (try with_reducible rfl)))
        (try simp only [Act.put, List.setIfInBounds_toArray, List.set_cons_zero, List.set_cons_succ])
        (refine take_on 4 (some 35) (v := ?_) rfl rfl (by kernel_rfl) (by kernel_rfl) (by kernel_rfl) (fun _ _ _ h => h) (by rfl) (by assumption) ?_ ?_; rotate_left; · (intro w hSw; (try dsimp only at hSw); go_simp; (try with_reducible rfl)))
        (try simp only [Act.put, List.setIfInBounds_toArray, List.set_cons_zero, List.set_cons_succ])
        (refine take_on 5 (some 36) (v := ?_) rfl rfl (by kernel_rfl) (by kernel_rfl) (by kernel_rfl) (fun _ _ _ h => h) (by rfl) (by assumption) ?_ ?_; rotate_left; · (intro w hSw; (try dsimp only at hSw); have hq_ := hcut w; go_simp; (try with_reducible rfl)))
        (try simp only [Act.put, List.setIfInBounds_toArray, List.set_cons_zero, List.set_cons_succ])
        clear hcut
        refine wpAnyH_ready (rs := [0, 6]) (by kernel_rfl) (by simp) ?_; refine AllReadyH.cons (o := _) rfl (fun K hK => ?_) (AllReadyH.cons (o := _) rfl (fun K hK => ?_) AllReadyH.nil)
        · (obtain ⟨x0, x1, x2, x3, x4, x5, x6⟩ := blk7 D4)
          go_simp
          skip
          refine hK.out _ _ (by (try dsimp only); skip) (fun hHeld => ?_)
          clear hK K
          (try simp only [Act.put, List.setIfInBounds_toArray, List.set_cons_zero, List.set_cons_succ])
          clear x0 x1 x2 x3 x4 x5 x6
          refine wpAnyH_ready (rs := [6]) (by kernel_rfl) (by simp) ?_; refine AllReadyH.cons (o := _) rfl (fun K hK => ?_) AllReadyH.nil
          go_simp
          (go_at_call 28; refine hNum.mono ?_; rintro e u1 ⟨rfl, rfl⟩)
          refine hK.out _ _ (by (try dsimp only); skip) (fun hHeld => ?_)
          clear hK K
          (try simp only [Act.put, List.setIfInBounds_toArray, List.set_cons_zero, List.set_cons_succ])
          clear hNum
          refine wpAnyH_ready (rs := [7]) (by kernel_rfl) (by simp) ?_; refine AllReadyH.cons (o := _) rfl (fun K hK => ?_) AllReadyH.nil
          go_simp
          (go_at_call 27; refine (hW _).mono ?_; rintro e u2 ⟨rfl, y2⟩)
          refine hK.out _ _ (by (try dsimp only); skip) (fun hHeld => ?_)
          clear hK K
          (try simp only [Act.put, List.setIfInBounds_toArray, List.set_cons_zero, List.set_cons_succ])
          clear hW
          replace k0 := k0.trans y2 (by simp); replace D2 := y2.blk D2 (by simp); replace D4 := y2.blk D4 (by simp); replace J := J.chg y2 (by simp)
          clear y2
          obtain ⟨q0, q1, q2, q3, q4, q5, q6⟩ := blk7 D4
          obtain ⟨g0, g1, g2, g3, g4, g5, g6⟩ := blk7f D4
          refine wpAnyH_ready (rs := [8]) (by kernel_rfl) (by simp) ?_; refine AllReadyH.cons (o := _) rfl (fun K hK => ?_) AllReadyH.nil
          go_simp
          skip
          refine hK.out _ _ (by (try dsimp only); skip) (fun hHeld => ?_)
          clear hK K
          (try simp only [Act.put, List.setIfInBounds_toArray, List.set_cons_zero, List.set_cons_succ])
          refine wpAnyH_done (by kernel_rfl) ?_ _
          refine NoPanic.normal ?_
          clear q0 q1 q2 q3 q4 q5 q6 g0 g1 g2 g3 g4 g5 g6
          have E4 := set7 (y0 := .int .i64 Y.what) (y1 := .bool Y.user) (y2 := .int .u64 Y.a) (y3 := .int .u64 Y.v) (y4 := .int .i64 Y.g) (y5 := .int .i64 Y.i) (y6 := .int .i64 Y.n) D4
          have hch : Chg [w.heap.size + 1] u2 _ := chg7 (y0 := .int .i64 Y.what) (y1 := .bool Y.user) (y2 := .int .u64 Y.a) (y3 := .int .u64 Y.v) (y4 := .int .i64 Y.g) (y5 := .int .i64 Y.i) (y6 := .int .i64 Y.n) (g := w.heap.size + 1) (Chg.refl _ u2) (fun _ => by simp)
          go_wp2_with fail
          go_roundg ((partsC wl).length - (k + 1))
          case measure => omega
          case rel => exact ⟨k + 1, en, by omega, by omega, rfl, (by show en = _; rw [hak.out, hen.out]), (by show en ≤ m; omega), hch.blk D2 (by simp), by rw [hY.out]; exact E4, J.chg hch (by simp; have := hsz.out; omega), k0.trans hch (fun i hi hm => by simp at hm; omega)⟩
        · go_simp
          (go_at_call 28; refine hNum.mono ?_; rintro e u1 ⟨rfl, rfl⟩)
          refine hK.out _ _ (by (try dsimp only); skip) (fun hHeld => ?_)
          clear hK K
          (try simp only [Act.put, List.setIfInBounds_toArray, List.set_cons_zero, List.set_cons_succ])
          clear hNum
          (obtain ⟨x0, x1, x2, x3, x4, x5, x6⟩ := blk7 D4)
          refine wpAnyH_ready (rs := [0]) (by kernel_rfl) (by simp) ?_; refine AllReadyH.cons (o := _) rfl (fun K hK => ?_) AllReadyH.nil
          go_simp
          skip
          refine hK.out _ _ (by (try dsimp only); skip) (fun hHeld => ?_)
          clear hK K
          (try simp only [Act.put, List.setIfInBounds_toArray, List.set_cons_zero, List.set_cons_succ])
          clear x0 x1 x2 x3 x4 x5 x6
          refine wpAnyH_ready (rs := [7]) (by kernel_rfl) (by simp) ?_; refine AllReadyH.cons (o := _) rfl (fun K hK => ?_) AllReadyH.nil
          go_simp
          (go_at_call 27; refine (hW _).mono ?_; rintro e u2 ⟨rfl, y2⟩)
          refine hK.out _ _ (by (try dsimp only); skip) (fun hHeld => ?_)
          clear hK K
          (try simp only [Act.put, List.setIfInBounds_toArray, List.set_cons_zero, List.set_cons_succ])
          clear hW
          replace k0 := k0.trans y2 (by simp); replace D2 := y2.blk D2 (by simp); replace D4 := y2.blk D4 (by simp); replace J := J.chg y2 (by simp)
          clear y2
          obtain ⟨q0, q1, q2, q3, q4, q5, q6⟩ := blk7 D4
          obtain ⟨g0, g1, g2, g3, g4, g5, g6⟩ := blk7f D4
          refine wpAnyH_ready (rs := [8]) (by kernel_rfl) (by simp) ?_; refine AllReadyH.cons (o := _) rfl (fun K hK => ?_) AllReadyH.nil
          go_simp
          skip
          refine hK.out _ _ (by (try dsimp only); skip) (fun hHeld => ?_)
          clear hK K
          (try simp only [Act.put, List.setIfInBounds_toArray, List.set_cons_zero, List.set_cons_succ])
          refine wpAnyH_done (by kernel_rfl) ?_ _
          refine NoPanic.normal ?_
          clear q0 q1 q2 q3 q4 q5 q6 g0 g1 g2 g3 g4 g5 g6
          have E4 := set7 (y0 := .int .i64 Y.what) (y1 := .bool Y.user) (y2 := .int .u64 Y.a) (y3 := .int .u64 Y.v) (y4 := .int .i64 Y.g) (y5 := .int .i64 Y.i) (y6 := .int .i64 Y.n) D4
          have hch : Chg [w.heap.size + 1] u2 _ := chg7 (y0 := .int .i64 Y.what) (y1 := .bool Y.user) (y2 := .int .u64 Y.a) (y3 := .int .u64 Y.v) (y4 := .int .i64 Y.g) (y5 := .int .i64 Y.i) (y6 := .int .i64 Y.n) (g := w.heap.size + 1) (Chg.refl _ u2) (fun _ => by simp)
          go_wp2_with fail
          go_roundg ((partsC wl).length - (k + 1))
          case measure => omega
          case rel => exact ⟨k + 1, en, by omega, by omega, rfl, (by show en = _; rw [hak.out, hen.out]), (by show en ≤ m; omega), hch.blk D2 (by simp), by rw [hY.out]; exact E4, J.chg hch (by simp; have := hsz.out; omega), k0.trans hch (fun i hi hm => by simp at hm; omega)⟩
    · have hkk : k = (partsC wl).length := by omega
      have hN := fun ty => run_next0 I (show (partsC wl).length ≤ k by omega) ty
      clear I
      have hcl := can_long (b := L) (by rw [hwl.out, ← hkk, ← ha.out, hll.out]; exact ham.out) (by rw [hwl.out]; exact hw0.1) (by rw [hll.out]; exact hm)
      rw [hwl.out, ← hkk, ← ha.out, ← hxu.out] at hcl
      generalize getK L k = X at *
      generalize hub : decide (x0 ≥ 128) = ub at *
      have hR := fun w9 => ScRight_any { X with user := ub } w9
      obtain ⟨hc1, hc2⟩ := hcl
      replace hc2 := Lib.hid hc2
      simp only [Sop.ar] at hR C4
      generalize hro : rightS { X with user := ub } = ro at *
      have e1 := (h0.cell (p := ⟨bl, off, none⟩) hbl (by simp)).trans e0
      have hne : bl ≠ w.heap.size + 1 := by omega
      clear e0 hkk hro
      obtain ⟨x0', x1, x2, x3, x4, x5, x6⟩ := blk7 C4
      obtain ⟨f0, f1, f2, f3, f4, f5, f6⟩ := blk7f C4
      have E4 : Blk (wr.setCell ⟨w.heap.size + 1, 1, none⟩ (.bool ub)) (w.heap.size + 1) 31 #[.int .i64 X.what, .bool ub, .int .u64 X.a, .int .u64 X.v, .int .i64 X.g, .int .i64 X.i, .int .i64 X.n] := by have := C4.set_ 1 (.bool ub); simpa using this
      have E2 : Blk (wr.setCell ⟨w.heap.size + 1, 1, none⟩ (.bool ub)) w.heap.size 31 #[.int .i64 0, .bool false, .int .u64 0, .int .u64 0, .int .i64 0, .int .i64 0, .int .i64 0] := C2.far (by simp) _
      have hch : Chg [w.heap.size + 1] wr (wr.setCell ⟨w.heap.size + 1, 1, none⟩ (.bool ub)) := (Chg.refl _ wr).setCell (by simp) _
      have k1 : Chg [] w (wr.setCell ⟨w.heap.size + 1, 1, none⟩ (.bool ub)) := h0.trans hch (fun i hi hm => by simp at hm; omega)
      replace hc1 := Lib.hid hc1
      go_wp2_with fail
      generalize wr.setCell ⟨w.heap.size + 1, 1, none⟩ (.bool ub) = w1 at *
      refine (hR _).mono ?_; rintro e w2 ⟨rfl, y2⟩
      clear hR hN x0' x1 x2 x3 x4 x5 x6 f0 f1 f2 f3 f4 f5 f6
      replace k1 := k1.trans y2 (by simp); replace E2 := y2.blk E2 (by simp); replace E4 := y2.blk E4 (by simp)
      clear y2 C2 C4 h0
      obtain ⟨x0, x1, x2, x3, x4, x5, x6⟩ := blk7 E4
      obtain ⟨q0, q1, q2, q3, q4, q5, q6⟩ := blk7 E2
      obtain ⟨g0, g1, g2, g3, g4, g5, g6⟩ := blk7f E2
      cases ro with
      | false =>
        have hcf := Lib.hid (got_no hc1.out)
        go_wp2_with fail
        have E3 := set7 (y0 := .int .i64 0) (y1 := .bool false) (y2 := .int .u64 0) (y3 := .int .u64 0) (y4 := .int .i64 0) (y5 := .int .i64 0) (y6 := .int .i64 0) E2
        have hch : Chg [w.heap.size] w2 _ := chg7 (y0 := .int .i64 0) (y1 := .bool false) (y2 := .int .u64 0) (y3 := .int .u64 0) (y4 := .int .i64 0) (y5 := .int .i64 0) (y6 := .int .i64 0) (g := w.heap.size) (Chg.refl _ w2) (fun _ => by simp)
        exact bodyPost_ret (cell_ret2 rfl E3 rfl rfl Try.underlying31 rfl (by kernel_rfl)) rfl ⟨by rw [hcf.out.1, hcf.out.2]; rfl, k1.trans hch (fun i hi hm => by simp at hm; omega)⟩
      | true =>
        have hcf := Lib.hid (got_yes hc1.out)
        have hop := Lib.hid (hc2.out hc1.out)
        go_wp2_with fail
        have E3 := set7 (y0 := .int .i64 X.what) (y1 := .bool ub) (y2 := .int .u64 X.a) (y3 := .int .u64 X.v) (y4 := .int .i64 X.g) (y5 := .int .i64 X.i) (y6 := .int .i64 X.n) E2
        have hch : Chg [w.heap.size] w2 _ := chg7 (y0 := .int .i64 X.what) (y1 := .bool ub) (y2 := .int .u64 X.a) (y3 := .int .u64 X.v) (y4 := .int .i64 X.g) (y5 := .int .i64 X.i) (y6 := .int .i64 X.n) (g := w.heap.size) (Chg.refl _ w2) (fun _ => by simp)
        exact bodyPost_ret (cell_ret2 rfl E3 rfl rfl Try.underlying31 rfl (by kernel_rfl)) rfl ⟨by rw [hcf.out.1, hcf.out.2, ← hop.out.1, hwl.out, ← hop.out.2]; rfl, k1.trans hch (fun i hi hm => by simp at hm; omega)⟩

theorem tmp_ret3 {P : Program} {fn : Func} {p q r : Tmp} (h : fn.results = #[.tmp p, .tmp q, .tmp r]) (tmps : Array Value) (w : World) : (results fn tmps).run P w = .ok (.tuple #[tmps.getD p undef, tmps.getD q undef, tmps.getD r undef]) w := by
  simp [results, h]
/-- how Get ends -/
def gotE (b : List Int) : Int := if (getS b).2 = b.length then 0 else 12
/-- where Get stands: the operations that it has read -/
def AtS (b : List Int) (a : Nat) (M : List Sop) : Prop := getS b = (M ++ (getS (b.drop a)).1, a + (getS (b.drop a)).2)
theorem AtS.zero (b : List Int) : AtS b 0 [] := by unfold AtS; simp
theorem AtS.step {b : List Int} {a : Nat} {M : List Sop} (h : AtS b a M) (hc : canS (b.drop a) = true) : AtS b (a + gotN (b.drop a)) (M ++ [gotO (b.drop a)]) := by
  unfold AtS at *
  rw [h, (got_yes hc).1, (got_yes hc).2, getS_step hc, List.drop_drop]
  simp [Nat.add_assoc]
theorem AtS.stop {b : List Int} {a : Nat} {M : List Sop} (h : AtS b a M) (hc : canS (b.drop a) = false) : getS b = (M, a) := by
  unfold AtS at h
  rw [h, getS_stop hc]; simp
theorem getS_fewer (b : List Int) (hr : ∀ x ∈ b, 0 ≤ x ∧ x < 256) : (getS b).1.length ≤ b.length := by
  obtain ⟨_, _, h3, h4⟩ := getS_got b.length b (Nat.le_refl _) hr
  have h5 : ∀ l : List Sop, l.length ≤ (l.flatMap oneS).length := by
    intro l
    induction l with
    | nil => simp
    | cons o l ih =>
      have : 0 < (oneS o).length := by simp [oneS]
      rw [List.flatMap_cons, List.length_append, List.length_cons]; omega
  have h6 := h5 (getS b).1
  rw [h3, List.length_take] at h6
  omega

set_option maxRecDepth 100000 in
set_option maxHeartbeats 4000000 in
theorem ScGet_any (A : Option Addr) (nn c : Nat) (b : List Int) (w : World) (hs : SlG (numE .u8) w A nn b) (hnc : nn ≤ c) (hb : nn ≤ 1000000) (hr : ∀ x ∈ b, 0 ≤ x ∧ x < 256) :
    Calls Try.prog 11 #[.slice A nn c] w fun e w' => ∃ A' c', e = .returned (.tuple #[.slice A' (getS b).1.length c', .int .i64 (getS b).2, .int .i64 (gotE b)]) ∧ LG opE w w' 31 (.slice A' (getS b).1.length c') (getS b).1 := by
  have hll := Lib.hid hs.len
  have hfew := getS_fewer b hr
  rw [hs.len] at hfew
  go_enter Try.func11, Try.ntmps11
  go_wp2_with fail
  go_loopg [5, 6, 8] nn (fun gg s5 s6 s8 wr => ∃ (a : Nat) (A' : Option Addr) (m' c' : Nat) (M : List Sop), a ≤ nn ∧ nn - a ≤ gg ∧ s5 = .slice A' m' c' ∧ s6 = .int .i64 (a : Nat) ∧ Aside (m' = M.length) ∧ Aside (LG opE w wr 31 (.slice A' m' c') M) ∧ Aside (AtS b a M))
  case atStart => exact ⟨0, none, 0, 0, [], by omega, by omega, rfl, rfl, rfl, LG.none_ w _, AtS.zero b⟩
  case round =>
    obtain ⟨a, A', m', c', M, ha, hg, rfl, rfl, hm, lg, hat⟩ := hrel
    replace lg := lg.out
    by_cases hlt : a < nn
    · have hcut := run_from (P := Try.prog) 23 5 1 Try.underlying23 size8 A nn c a (by omega) wr
      have hG := ScGet1_any (cutA A c a 1) (nn - a) (c - a) (b.drop a) wr (by have h := (hs.new lg.1).cut a nn (by omega) (Nat.le_refl _) hnc; rw [List.take_of_length_le (by simp; rw [hll.out]; omega)] at h; exact h) (by omega) (by omega) (fun x hx => hr x (List.mem_of_mem_drop hx))
      have hro := fun h => Lib.hid (hat.out.step h)
      have hno := fun h => Lib.hid (hat.out.stop h)
      have hgy := fun h => got_yes (b := b.drop a) h
      have hgn := fun h => got_no (b := b.drop a) h
      have hpos := size_pos (whatS (b.drop a))
      have hfit : canS (b.drop a) = true → a + sizeS (whatS (b.drop a)) ≤ nn := fun h => by have h2 := (one_op (fun x hx => hr x (List.mem_of_mem_drop hx)) h).2.2.2.2; rw [List.length_drop, hll.out] at h2; omega
      have hMf : canS (b.drop a) = true → M.length + 1 ≤ 1000000 := fun h => by have h2 := hat.out.step h; unfold AtS at h2; have h3 := congrArg (fun p => p.1.length) h2; simp at h3; omega
      have hend : canS (b.drop a) = false → gotE b = 12 := fun h => by unfold gotE; rw [hat.out.stop h, hll.out]; exact if_neg (by show ¬ a = nn; omega)
      clear hat hfew
      generalize hO : gotO (b.drop a) = O at *
      generalize hN : gotN (b.drop a) = sz at *
      replace hO := Lib.hid hO
      replace hN := Lib.hid hN
      simp only [Sop.ar] at hG
      replace hm := Lib.hid hm.out
      go_wp2_with fail
      refine hG.mono ?_; rintro e w2 ⟨rfl, y2⟩
      clear hG hcut
      have lg2 := lg.new y2
      have lg3 := lg2.new ((Chg.refl [] w2).alloc (.cells #[.int .i64 O.what, .bool O.user, .int .u64 O.a, .int .u64 O.v, .int .i64 O.g, .int .i64 O.i, .int .i64 O.n] 31))
      have B3 := Blk.new w2 31 #[.int .i64 O.what, .bool O.user, .int .u64 O.a, .int .u64 O.v, .int .i64 O.g, .int .i64 O.i, .int .i64 O.n]
      clear lg lg2 y2
      have lg4 := lg3.new ((Chg.refl [] _).alloc (.cells #[.int .i64 O.what, .bool O.user, .int .u64 O.a, .int .u64 O.v, .int .i64 O.g, .int .i64 O.i, .int .i64 O.n] 31))
      cases hcan : canS (b.drop a) with
      | false =>
        have h0 := (hgn hcan).2
        subst h0
        have hq := hno hcan
        have hq2 := Lib.hid (hend hcan)
        clear hgn hgy hro hfit hMf hcan hno hpos hend B3 lg4
        go_wp2_with fail
        exact bodyPost_ret (tmp_ret3 rfl _ _) rfl ⟨A', c', by rw [hq.out, hq2.out, show M.length = m' from hm.out.symm]; rfl, by rw [hq.out]; exact lg3.len_ hm.out⟩
      | true =>
        have h0 := (hgy hcan).2
        have hq := hro hcan
        have hf := hfit hcan
        have hMl := hMf hcan
        rw [← h0] at hf hpos
        clear hgn hgy hro hfit hMf hcan hno hend h0
        have hsz0 : ((sz : Int) == 0) = false := by simp; omega
        have hsum : (a : Int) + (sz : Int) = ((a + sz : Nat) : Int) := by omega
        obtain ⟨x0, x1, x2, x3, x4, x5, x6⟩ := blk7 B3
        obtain ⟨a2, ha2⟩ : ∃ a2, a2 = a + sz := ⟨_, rfl⟩
        rw [← ha2] at hsum hq
        replace ha2 := Lib.hid ha2
        have hwr2 : IntKind.i64.wrap (a2 : Int) = (a2 : Int) := by rw [IntKind.wrap_i64]; have := ha2.out; omega
        go_wp2_with (at_builtin; refine wpList_append_G rfl _ _ 22 rfl 31 (.agg #[.int .i64 0, .bool false, .int .u64 0, .int .u64 0, .int .i64 0, .int .i64 0, .int .i64 0]) 56 Try.underlying22 (by kernel_rfl) (by kernel_rfl) (.slice A' m' c') M rfl lg4.2.1 (some ⟨w2.heap.size + 1, 0, none⟩) 1 1 [O] rfl (OwnG.src (E := opE) (OwnG.lit (L := [O]) (blk_two w2 (.cells #[.int .i64 O.what, .bool O.user, .int .u64 O.a, .int .u64 O.v, .int .i64 O.g, .int .i64 O.i, .int .i64 O.n] 31) 31 #[.int .i64 O.what, .bool O.user, .int .u64 O.a, .int .u64 O.v, .int .i64 O.g, .int .i64 O.i, .int .i64 O.n]) (by simp))) rfl (by omega) ?_; intro v5 w5 ho5 hc5 hv5; obtain ⟨A5, c5, rfl, _, _⟩ := ho5.form)
        have lg5 := lg4.app ho5 hc5 hv5
        go_roundg (nn - a2)
        case measure => have := ha2.out; omega
        case rel => exact ⟨a2, A5, M.length + 1, c5, M ++ [O], by have := ha2.out; omega, by omega, rfl, rfl, (by show M.length + 1 = _; simp), lg5.len_ (by simp), hq.out⟩
    · obtain rfl : a = nn := by omega
      have hq := hat.out.stop (by rw [List.drop_of_length_le (by rw [hll.out]; exact Nat.le_refl _)]; exact canS_nil)
      have hq2 : gotE b = 0 := by unfold gotE; rw [hq, hll.out]; exact if_pos rfl
      replace hq := Lib.hid hq
      replace hq2 := Lib.hid hq2
      clear hat
      replace hm := Lib.hid hm.out
      go_wp2_with fail
      exact bodyPost_ret (tmp_ret3 rfl _ _) rfl ⟨A', c', by rw [hq.out, hq2.out, show M.length = m' from hm.out.symm]; rfl, by rw [hq.out]; exact lg.len_ hm.out⟩

end Go.Proofs.Ytdmcicgappgiiaa
