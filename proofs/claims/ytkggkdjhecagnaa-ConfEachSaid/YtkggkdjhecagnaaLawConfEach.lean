/-
  ConfEach: the law, walked from contracts.
-/
import Derived.Test.YtkggkdjhecagnaaConfHead
import Derived.Deep.QuietTactic
namespace Go.Proofs.Ytkggkdjhecagnaa
open Go.RowKit Go.Maps

/-- a row of 256 numbers, told by a function -/
def numsA (T : Int → Int) : Array Value := ((List.range 256).map fun (j : Nat) => Value.int .i64 (T j)).toArray
theorem numsA_get (T : Int → Int) (j : Nat) (hj : j < 256) : (numsA T)[j]? = some (.int .i64 (T j)) := by simp [numsA, hj]
theorem numsA_set (T : Int → Int) (j : Nat) (v : Int) : (numsA T).setIfInBounds j (.int .i64 v) = numsA (fun y => if y = j then v else T y) := by
  apply Array.ext_getElem?
  intro i
  simp only [numsA, List.setIfInBounds_toArray, List.getElem?_toArray, List.getElem?_set, List.length_map, List.length_range, List.getElem?_map]
  by_cases e : j = i
  · subst e
    by_cases hj : j < 256
    · simp [hj]
    · simp [hj]
  · have e' : ¬ ((i : Int) = j) := fun h => e (by omega)
    by_cases hi : i < 256
    · simp [e, e', hi]
    · simp [e, hi]
theorem numsA_congr (S T : Int → Int) (h : ∀ j : Nat, j < 256 → S j = T j) : numsA S = numsA T := by
  unfold numsA
  congr 1
  exact List.map_congr_left fun j hj => by rw [h j (List.mem_range.1 hj)]
theorem zeroA (w : World) : (zeroValue 29).run Try.prog w = .ok (.agg (numsA fun _ => 0)) w := by kernel_rfl
/-- told once: those of Z, and the first k of a list -/
def toldA (Z : Int → Bool) (M : List Int) (k : Nat) (y : Int) : Int := if Z y || (M.take k).contains y then 1 else 0
theorem toldA_succ {Z : Int → Bool} {M : List Int} {k : Nat} (hk : k < M.length) (y : Int) : toldA Z M (k + 1) y = if y = M.getD k 0 then 1 else toldA Z M k y := by
  unfold toldA
  rw [take_snoc M k hk]
  by_cases e : y = M.getD k 0
  · rw [if_pos e, if_pos]
    rw [Bool.or_eq_true]; right; rw [List.contains_iff_mem, e]; simp
  · rw [if_neg e]
    have e2 : (M.take k ++ [M.getD k 0]).contains y = (M.take k).contains y := by rw [Bool.eq_iff_iff, List.contains_iff_mem, List.contains_iff_mem, List.mem_append, List.mem_singleton]; simp only [e, or_false]
    rw [e2]
theorem toldA_not {Z : Int → Bool} {M : List Int} {k : Nat} (hk : k < M.length) (hn : M.Nodup) (hz : ∀ x ∈ M, Z x = false) : toldA Z M k (M.getD k 0) = 0 := by
  have hm : M.getD k 0 ∈ M := by rw [List.getD_eq_getElem?_getD, List.getElem?_eq_getElem hk]; exact List.getElem_mem _
  unfold toldA
  rw [hz _ hm, Bool.false_or, if_neg]
  intro hc
  have hs := List.Pairwise.sublist (List.take_sublist (k + 1) M) hn
  rw [take_snoc M k hk, ← List.nodup_iff_pairwise_ne, List.nodup_append] at hs
  exact hs.2.2 _ (List.contains_iff_mem.1 hc) _ (List.mem_singleton.2 rfl) rfl
theorem up_prev {M : List Int} (h : M.Pairwise (· < ·)) {p k : Nat} (hp : p + 1 = k) (hk : k < M.length) : M.getD p 0 < M.getD k 0 := by
  rw [List.pairwise_iff_getElem] at h
  rw [List.getD_eq_getElem?_getD, List.getD_eq_getElem?_getD, List.getElem?_eq_getElem (show p < M.length by omega), List.getElem?_eq_getElem hk]
  exact h p k (by omega) hk (by omega)
theorem mem_getD {M : List Int} {k : Nat} (hk : k < M.length) : M.getD k 0 ∈ M := by rw [List.getD_eq_getElem?_getD, List.getElem?_eq_getElem hk]; exact List.getElem_mem _

/-- what the law asks of the two lists -/
structure EachF (c : Cf) (M N : List Int) : Prop where
  up1 : M.Pairwise (· < ·)
  up2 : N.Pairwise (· < ·)
  r1 : ∀ x ∈ M, 0 ≤ x ∧ x < c.host
  r2 : ∀ x ∈ N, 0 ≤ x ∧ x < c.host
  ap : ∀ x ∈ N, M.contains x = false
  map : ∀ x ∈ c.map, M.contains x = true
  all : ∀ x, 0 ≤ x → x < c.host → (M.contains x || N.contains x) = !c.pool x
  len : M.length = c.map.length
theorem Cf.Ok.each {c : Cf} (h : c.Ok) : EachF c c.image c.foreign := by
  have hh := h.host
  have hmi : ∀ x, x ∈ c.image ↔ x ∈ c.map := fun x => by
    rw [Cf.image_of h, pickF_mem, Cf.img_iff]
    exact ⟨fun k => k.2.2, fun k => ⟨(h.bound x k).1, (h.bound x k).2, k⟩⟩
  have hmf : ∀ x, x ∈ c.foreign ↔ 0 ≤ x ∧ x < c.host ∧ x ∉ c.map ∧ c.pool x = false := fun x => by
    rw [Cf.foreign_of h, pickF_mem, Cf.frn_iff]
    constructor
    · rintro ⟨a, b, d⟩; exact ⟨a, by omega, d⟩
    · rintro ⟨a, b, d⟩; exact ⟨a, by omega, d⟩
  have hc : ∀ {M : List Int} {x : Int} {P : Prop}, (x ∈ M ↔ P) → (M.contains x = true ↔ P) := fun hx => by rw [List.contains_iff_mem]; exact hx
  refine ⟨by rw [Cf.image_of h]; exact pickF_up _ _, by rw [Cf.foreign_of h]; exact pickF_up _ _, fun x hx => ?_, fun x hx => ?_, fun x hx => ?_, fun x hx => ?_, fun x h0 h1 => ?_, Cf.image_len h⟩
  · have := h.bound x ((hmi x).1 hx); omega
  · have := (hmf x).1 hx; exact ⟨this.1, this.2.1⟩
  · rw [Bool.eq_false_iff, Ne, hc (hmi x)]; exact ((hmf x).1 hx).2.2.1
  · exact (hc (hmi x)).2 hx
  · rw [Bool.eq_iff_iff, Bool.or_eq_true, hc (hmi x), hc (hmf x), Bool.not_eq_true']
    constructor
    · rintro (k | k)
      · exact h.apart x k
      · exact k.2.2.2
    · intro k
      by_cases hm : x ∈ c.map
      · exact .inl hm
      · exact .inr ⟨h0, h1, hm, k⟩

set_option maxRecDepth 100000 in
set_option maxHeartbeats 8000000 in
theorem ConfEach_walk (c : Cf) (A : Option Addr) (n k : Nat) (w : World) (hin : CfIn c A n w) :
    Calls Try.prog 4 #[.agg (c.cs A n k)] w fun e w' => e = .returned (.bool true) ∧ Chg [] w w' := by
  have hsl := hin.sl
  have hwf := hin.wf
  have hlen := hsl.len
  have hle := hsl.le
  obtain ⟨h, L, f, m, t, a, r⟩ := c
  unfold Cf.cs
  simp only at *
  by_cases hn : 900 < n
  · have hnz : (900 : Int) < (n : Int) := by omega
    have hng : decide ((n : Int) > 900) = true := by simpa using hnz
    go_enter Try.func4, Try.ntmps4
    go_wp2_with fail
    have b1 := Blk.new w 24 #[.int .i64 h, .slice A n k, .int .i64 f, .int .i64 m, .int .i64 t, .int .i64 a, .int .i64 r]
    refine (Chead_any _).mono ?_; rintro e w1 ⟨rfl, k1⟩
    replace b1 := b1.chg_ k1 (by simp)
    have hc : Chg [] w w1 := ((Chg.refl [] w).alloc _).trans k1 (by simp)
    replace hsl := hsl.chg hc
    clear k1
    obtain ⟨c0, c1, c2, c3, c4, c5, c6⟩ := cfc7 b1
    clear hlen hle
    go_wp2_with fail
    go_ret
    exact ⟨rfl, hc⟩
  · have hnz : ¬ (900 : Int) < (n : Int) := by omega
    have hng : decide ((n : Int) > 900) = false := by simpa using hnz
    cases hR : Cf.right ⟨h, L, f, m, t, a, r⟩ with
    | false =>
      have hi0 : Cf.image ⟨h, L, f, m, t, a, r⟩ = [] := Cf.image_no fun ok => by rw [(Cf.right_iff _).2 ok] at hR; cases hR
      have hf0 : Cf.foreign ⟨h, L, f, m, t, a, r⟩ = [] := Cf.foreign_no fun ok => by rw [(Cf.right_iff _).2 ok] at hR; cases hR
      go_enter Try.func4, Try.ntmps4
      go_wp2_with fail
      have b1 := Blk.new w 24 #[.int .i64 h, .slice A n k, .int .i64 f, .int .i64 m, .int .i64 t, .int .i64 a, .int .i64 r]
      refine (Chead_any _).mono ?_; rintro e w1 ⟨rfl, k1⟩
      replace b1 := b1.chg_ k1 (by simp)
      have hc : Chg [] w w1 := ((Chg.refl [] w).alloc _).trans k1 (by simp)
      replace hsl := hsl.chg hc
      clear k1
      obtain ⟨c0, c1, c2, c3, c4, c5, c6⟩ := cfc7 b1
      clear hlen hle
      go_wp2_with fail
      refine (CImage_lit h L f m t a r A n k [] _ hsl hwf hi0).mono ?_; rintro e w2 ⟨B, mb, rfl, _, y⟩
      replace b1 := b1.chg_ y (by simp)
      replace hc := hc.trans y (by simp)
      replace hsl := hsl.chg y
      clear y
      clear c0 c1 c2 c3 c4 c5 c6
      obtain ⟨c0, c1, c2, c3, c4, c5, c6⟩ := cfc7 b1
      go_wp2_with fail
      refine (CForeign_lit h L f m t a r A n k [] _ hsl hwf hf0).mono ?_; rintro e w3 ⟨B2, mb2, rfl, _, y⟩
      replace b1 := b1.chg_ y (by simp)
      replace hc := hc.trans y (by simp)
      replace hsl := hsl.chg y
      clear y
      clear c0 c1 c2 c3 c4 c5 c6
      obtain ⟨c0, c1, c2, c3, c4, c5, c6⟩ := cfc7 b1
      go_wp2_with fail
      refine (CRight_lit h L f m t a r A n k false _ hsl hwf hR).mono ?_; rintro e w4 ⟨rfl, y⟩
      replace hc := hc.trans y (by simp)
      go_wp2_with fail
      go_ret
      exact ⟨rfl, hc⟩
    | true =>
      have hok := (Cf.right_iff _).1 hR
      have HE := Lib.hid hok.each
      have hh := hok.host
      have hf0 := hok.first
      have hm0 := hok.many
      have hrm := hok.room
      simp only at hh hf0 hm0 hrm
      clear hok
      have hrI := (Cf.image_rng (c := ⟨h, L, f, m, t, a, r⟩)).2
      have hrF := (Cf.foreign_rng (c := ⟨h, L, f, m, t, a, r⟩)).2
      have IC := fun w (hs : SlK .i64 w A n L) => CImage_lit h L f m t a r A n k _ w hs hwf rfl
      have FC := fun w (hs : SlK .i64 w A n L) => CForeign_lit h L f m t a r A n k _ w hs hwf rfl
      obtain ⟨M, hM⟩ : ∃ M, Cf.image ⟨h, L, f, m, t, a, r⟩ = M := ⟨_, rfl⟩
      obtain ⟨N, hN⟩ : ∃ N, Cf.foreign ⟨h, L, f, m, t, a, r⟩ = N := ⟨_, rfl⟩
      rw [hM] at HE hrI IC
      rw [hN] at HE hrF FC
      clear hM hN
      have hz := zeroA
      obtain ⟨x1, hx1⟩ : ∃ x1, M.length = x1 := ⟨_, rfl⟩
      obtain ⟨x2, hx2⟩ : ∃ x2, N.length = x2 := ⟨_, rfl⟩
      unfold FrmI at IC FC
      rw [hx1] at hrI IC
      rw [hx2] at hrF FC
      have HX1 := Lib.hid hx1
      have HX2 := Lib.hid hx2
      clear hx1 hx2
      have hfm : wrap64 (f + m) = f + m := by unfold wrap64; omega
      go_enter Try.func4, Try.ntmps4
      go_wp2_with fail
      have b1 := Blk.new w 24 #[.int .i64 h, .slice A n k, .int .i64 f, .int .i64 m, .int .i64 t, .int .i64 a, .int .i64 r]
      refine (Chead_any _).mono ?_; rintro e w1 ⟨rfl, k1⟩
      replace b1 := b1.chg_ k1 (by simp)
      have hc : Chg [] w w1 := ((Chg.refl [] w).alloc _).trans k1 (by simp)
      replace hsl := hsl.chg hc
      clear k1
      obtain ⟨c0, c1, c2, c3, c4, c5, c6⟩ := cfc7 b1
      clear hlen
      go_wp2_with fail
      refine (IC _ hsl).mono ?_; rintro e w2 ⟨B1, mb1, rfl, hi1, y⟩
      replace b1 := b1.chg_ y (by simp)
      replace hc := hc.trans y (by simp)
      replace hsl := hsl.chg y
      clear y
      clear c0 c1 c2 c3 c4 c5 c6
      obtain ⟨c0, c1, c2, c3, c4, c5, c6⟩ := cfc7 b1
      go_wp2_with fail
      refine (FC _ hsl).mono ?_; rintro e w3 ⟨B2, mb2, rfl, hi2, y⟩
      replace b1 := b1.chg_ y (by simp)
      replace hc := hc.trans y (by simp)
      replace hsl := hsl.chg y
      replace hi1 := hi1.chg y
      clear y
      clear c0 c1 c2 c3 c4 c5 c6
      obtain ⟨c0, c1, c2, c3, c4, c5, c6⟩ := cfc7 b1
      go_wp2_with fail
      refine (CRight_lit h L f m t a r A n k true _ hsl hwf hR).mono ?_; rintro e w4 ⟨rfl, y⟩
      replace b1 := b1.chg_ y (by simp)
      replace hc := hc.trans y (by simp)
      replace hsl := hsl.chg y
      replace hi1 := hi1.chg y
      replace hi2 := hi2.chg y
      clear y IC FC c0 c1 c2 c3 c4 c5 c6
      have hlt1 := b1.lt
      go_wp2_with fail
      have yz : Chg [] w4 (w4.alloc (.cells (numsA fun _ => 0) 29)) := (Chg.refl [] w4).alloc _
      have hG := Blk.new w4 29 (numsA fun _ => 0)
      replace b1 := b1.chg_ yz (by simp)
      clear hz
      generalize w4.alloc (.cells (numsA fun _ => 0) 29) = ws at *
      go_loopw [7] (fun s wr => ∃ kk : Nat, kk ≤ x1 ∧ s = .int .i64 kk ∧ Chg [] w4 wr ∧ Blk wr w4.heap.size 29 (numsA (toldA (fun _ => false) M kk)) ∧ Blk wr w.heap.size 24 #[.int .i64 h, .slice A n k, .int .i64 f, .int .i64 m, .int .i64 t, .int .i64 a, .int .i64 r]) (fun s _ => x1 - (intOf s).toNat)
      case atStart => exact ⟨0, by omega, rfl, yz, by rw [numsA_congr (toldA (fun _ => false) M 0) (fun _ => 0) (fun j _ => by simp [toldA])]; exact hG, b1⟩
      case round =>
        obtain ⟨kk, hkk, rfl, y, bT, bC⟩ := hrel
        clear hG b1 yz
        by_cases hlt : kk < x1
        · have hltz : (kk : Int) < (x1 : Int) := by omega
          have hkM : kk < M.length := by have := HX1.out; omega
          obtain ⟨lb, off, rfl, hlb, hx, _⟩ := (hi1.chg y).get hlt
          have hv := HE.out.r1 _ (mem_getD hkM)
          simp only at hv
          have h0 := toldA_not (Z := fun _ => false) (M := M) hkM (HE.out.up1.imp fun e => by omega) (fun x hx => rfl)
          have hsu := toldA_succ (Z := fun _ => false) (M := M) hkM
          have hpv : ∀ p, p + 1 = kk → M.getD p 0 < M.getD kk 0 := fun p hp => up_prev HE.out.up1 hp hkM
          generalize hvv : M.getD kk 0 = v at *
          clear hvv
          obtain ⟨vn, rfl⟩ := Int.eq_ofNat_of_zero_le hv.1
          have HSU := Lib.hid hsu
          have HPV := Lib.hid hpv
          have HV := Lib.hid hv
          clear hsu hpv
          have hvn : vn < 256 := by omega
          have dz := bT.cell vn
          rw [numsA_get _ vn hvn, h0] at dz
          have fz := bT.frozen vn
          clear h0
          obtain ⟨c0, c1, c2, c3, c4, c5, c6⟩ := cfc7 bC
          have g1 : decide ((vn : Int) < 0) = false := by simp; try omega
          have g2 : decide ((vn : Int) ≥ h) = false := by simp; omega
          have g3 : decide ((vn : Int) > 255) = false := by simp; omega
          have hvz : (vn : Int) < 256 := by omega
          by_cases hk0 : kk = 0
          · have hk0d : decide ((kk : Int) > 0) = false := by simp; omega
            have hk0e : decide (0 < kk) = false := by simp; omega
            have hk0f : ¬ 0 < kk := by omega
            clear hk0
            go_wp2_with fail
            go_quiet (fail)
            go_wp2_with fail
            go_region
            have k9 : Chg [] w4 ((wr.drewN (nq + 1)).setCell ⟨w4.heap.size, vn, none⟩ (.int .i64 1)) := (y.drewN _).setCell (fun hh => absurd hh (Nat.lt_irrefl _)) _
            have bT9 := (bT.drewN (nq + 1)).set_ vn (.int .i64 1)
            rw [numsA_set] at bT9
            have bC9 := (bC.drewN (nq + 1)).far (p := ⟨w4.heap.size, vn, none⟩) (by show w.heap.size ≠ w4.heap.size; omega) (.int .i64 1)
            clear dz fz hx y bT bC c0 c1 c2 c3 c4 c5 c6
            generalize (wr.drewN (nq + 1)).setCell ⟨w4.heap.size, vn, none⟩ (.int .i64 1) = w9 at *
            go_wp2_with fail
            go_roundw
            case rel => exact ⟨kk + 1, by omega, by go_num, k9, by rw [numsA_congr (toldA (fun _ => false) M (kk + 1)) (fun y => if y = ((vn : Nat) : Int) then 1 else toldA (fun _ => false) M kk y) (fun j _ => HSU.out j)]; exact bT9, bC9⟩
            case measure => simp [intOf]; omega
          · obtain ⟨p, hp⟩ : ∃ p, p + 1 = kk := ⟨kk - 1, by omega⟩
            have hk0d : decide ((kk : Int) > 0) = true := by simp; omega
            have hk0f : 0 < kk := by omega
            clear hk0
            have hpn : IntKind.i64.wrap ((kk : Int) - 1) = (p : Int) := by rw [IntWalk.i64_in _ (by omega)]; omega
            have hpz : (p : Int) < (x1 : Int) := by omega
            obtain ⟨lb', off', e', _, hxp, _⟩ := (hi1.chg y).get (show p < x1 by omega)
            injection e' with e'; injection e' with e1 e2; subst e1; subst e2
            have hpp := HPV.out p hp
            generalize M.getD p 0 = u at *
            have g4 : decide ((vn : Int) ≤ u) = false := by simp; omega
            clear hp hpp
            go_wp2_with fail
            go_quiet (fail)
            go_wp2_with fail
            go_region
            have k9 : Chg [] w4 ((wr.drewN (nq + 1)).setCell ⟨w4.heap.size, vn, none⟩ (.int .i64 1)) := (y.drewN _).setCell (fun hh => absurd hh (Nat.lt_irrefl _)) _
            have bT9 := (bT.drewN (nq + 1)).set_ vn (.int .i64 1)
            rw [numsA_set] at bT9
            have bC9 := (bC.drewN (nq + 1)).far (p := ⟨w4.heap.size, vn, none⟩) (by show w.heap.size ≠ w4.heap.size; omega) (.int .i64 1)
            clear dz fz hx y bT bC c0 c1 c2 c3 c4 c5 c6
            generalize (wr.drewN (nq + 1)).setCell ⟨w4.heap.size, vn, none⟩ (.int .i64 1) = w9 at *
            go_wp2_with fail
            go_roundw
            case rel => exact ⟨kk + 1, by omega, by go_num, k9, by rw [numsA_congr (toldA (fun _ => false) M (kk + 1)) (fun y => if y = ((vn : Nat) : Int) then 1 else toldA (fun _ => false) M kk y) (fun j _ => HSU.out j)]; exact bT9, bC9⟩
            case measure => simp [intOf]; omega
        · obtain rfl : x1 = kk := by omega
          have hltz : ¬ (x1 : Int) < (x1 : Int) := by omega
          rw [numsA_congr (toldA (fun _ => false) M x1) (toldA (fun y => M.contains y) N 0) (fun j _ => by unfold toldA; rw [List.take_of_length_le (by rw [HX1.out]; exact Nat.le_refl _)]; simp)] at bT
          have hG := bT
          have yz := y
          have b1 := bC
          clear bT y bC
          go_wp2_with fail
          go_loopw [8] (fun s wr => ∃ kk : Nat, kk ≤ x2 ∧ s = .int .i64 kk ∧ Chg [] w4 wr ∧ Blk wr w4.heap.size 29 (numsA (toldA (fun y => M.contains y) N kk)) ∧ Blk wr w.heap.size 24 #[.int .i64 h, .slice A n k, .int .i64 f, .int .i64 m, .int .i64 t, .int .i64 a, .int .i64 r]) (fun s _ => x2 - (intOf s).toNat)
          case atStart => exact ⟨0, by omega, rfl, yz, hG, b1⟩
          case round =>
            obtain ⟨kk, hkk, rfl, y, bT, bC⟩ := hrel
            clear hG b1 yz
            by_cases hlt : kk < x2
            · have hltz : (kk : Int) < (x2 : Int) := by omega
              have hkM : kk < N.length := by have := HX2.out; omega
              obtain ⟨lb, off, rfl, hlb, hx, _⟩ := (hi2.chg y).get hlt
              have hv := HE.out.r2 _ (mem_getD hkM)
              simp only at hv
              have h0 := toldA_not (Z := fun y => M.contains y) (M := N) hkM (HE.out.up2.imp fun e => by omega) (fun x hx => HE.out.ap x hx)
              have hsu := toldA_succ (Z := fun y => M.contains y) (M := N) hkM
              have hpv : ∀ p, p + 1 = kk → N.getD p 0 < N.getD kk 0 := fun p hp => up_prev HE.out.up2 hp hkM
              generalize hvv : N.getD kk 0 = v at *
              clear hvv
              obtain ⟨vn, rfl⟩ := Int.eq_ofNat_of_zero_le hv.1
              have HSU := Lib.hid hsu
              have HPV := Lib.hid hpv
              have HV := Lib.hid hv
              clear hsu hpv
              have hvn : vn < 256 := by omega
              have dz := bT.cell vn
              rw [numsA_get _ vn hvn, h0] at dz
              have fz := bT.frozen vn
              clear h0
              obtain ⟨c0, c1, c2, c3, c4, c5, c6⟩ := cfc7 bC
              have g1 : decide ((vn : Int) < 0) = false := by simp; try omega
              have g2 : decide ((vn : Int) ≥ h) = false := by simp; omega
              have g3 : decide ((vn : Int) > 255) = false := by simp; omega
              have hvz : (vn : Int) < 256 := by omega
              by_cases hk0 : kk = 0
              · have hk0d : decide ((kk : Int) > 0) = false := by simp; omega
                have hk0e : decide (0 < kk) = false := by simp; omega
                have hk0f : ¬ 0 < kk := by omega
                clear hk0
                go_wp2_with fail
                go_quiet (fail)
                go_wp2_with fail
                go_region
                have k9 : Chg [] w4 ((wr.drewN (nq + 1)).setCell ⟨w4.heap.size, vn, none⟩ (.int .i64 1)) := (y.drewN _).setCell (fun hh => absurd hh (Nat.lt_irrefl _)) _
                have bT9 := (bT.drewN (nq + 1)).set_ vn (.int .i64 1)
                rw [numsA_set] at bT9
                have bC9 := (bC.drewN (nq + 1)).far (p := ⟨w4.heap.size, vn, none⟩) (by show w.heap.size ≠ w4.heap.size; omega) (.int .i64 1)
                clear dz fz hx y bT bC c0 c1 c2 c3 c4 c5 c6
                generalize (wr.drewN (nq + 1)).setCell ⟨w4.heap.size, vn, none⟩ (.int .i64 1) = w9 at *
                go_wp2_with fail
                go_roundw
                case rel => exact ⟨kk + 1, by omega, by go_num, k9, by rw [numsA_congr (toldA (fun y => M.contains y) N (kk + 1)) (fun y => if y = ((vn : Nat) : Int) then 1 else toldA (fun y => M.contains y) N kk y) (fun j _ => HSU.out j)]; exact bT9, bC9⟩
                case measure => simp [intOf]; omega
              · obtain ⟨p, hp⟩ : ∃ p, p + 1 = kk := ⟨kk - 1, by omega⟩
                have hk0d : decide ((kk : Int) > 0) = true := by simp; omega
                have hk0f : 0 < kk := by omega
                clear hk0
                have hpn : IntKind.i64.wrap ((kk : Int) - 1) = (p : Int) := by rw [IntWalk.i64_in _ (by omega)]; omega
                have hpz : (p : Int) < (x2 : Int) := by omega
                obtain ⟨lb', off', e', _, hxp, _⟩ := (hi2.chg y).get (show p < x2 by omega)
                injection e' with e'; injection e' with e1 e2; subst e1; subst e2
                have hpp := HPV.out p hp
                generalize N.getD p 0 = u at *
                have g4 : decide ((vn : Int) ≤ u) = false := by simp; omega
                clear hp hpp
                go_wp2_with fail
                go_quiet (fail)
                go_wp2_with fail
                go_region
                have k9 : Chg [] w4 ((wr.drewN (nq + 1)).setCell ⟨w4.heap.size, vn, none⟩ (.int .i64 1)) := (y.drewN _).setCell (fun hh => absurd hh (Nat.lt_irrefl _)) _
                have bT9 := (bT.drewN (nq + 1)).set_ vn (.int .i64 1)
                rw [numsA_set] at bT9
                have bC9 := (bC.drewN (nq + 1)).far (p := ⟨w4.heap.size, vn, none⟩) (by show w.heap.size ≠ w4.heap.size; omega) (.int .i64 1)
                clear dz fz hx y bT bC c0 c1 c2 c3 c4 c5 c6
                generalize (wr.drewN (nq + 1)).setCell ⟨w4.heap.size, vn, none⟩ (.int .i64 1) = w9 at *
                go_wp2_with fail
                go_roundw
                case rel => exact ⟨kk + 1, by omega, by go_num, k9, by rw [numsA_congr (toldA (fun y => M.contains y) N (kk + 1)) (fun y => if y = ((vn : Nat) : Int) then 1 else toldA (fun y => M.contains y) N kk y) (fun j _ => HSU.out j)]; exact bT9, bC9⟩
                case measure => simp [intOf]; omega
            · obtain rfl : x2 = kk := by omega
              have hltz : ¬ (x2 : Int) < (x2 : Int) := by omega
              have HFIN : Hid (∀ y, toldA (fun y => M.contains y) N x2 y = if (M.contains y || N.contains y) = true then 1 else 0) := Lib.hid fun y => by unfold toldA; rw [List.take_of_length_le (by rw [HX2.out]; exact Nat.le_refl _)]
              generalize toldA (fun y => M.contains y) N x2 = T at *
              clear hi1 hi2
              obtain ⟨c0, c1, c2, c3, c4, c5, c6⟩ := cfc7 bC
              go_wp2_with fail
              clear c0 c1 c2 c3 c4 c5 c6
              go_loopw [9] (fun s wr => ∃ q : Nat, q ≤ n ∧ s = .int .i64 q ∧ Chg [] w4 wr ∧ Blk wr w4.heap.size 29 (numsA T) ∧ Blk wr w.heap.size 24 #[.int .i64 h, .slice A n k, .int .i64 f, .int .i64 m, .int .i64 t, .int .i64 a, .int .i64 r]) (fun s _ => n - (intOf s).toNat)
              case atStart => exact ⟨0, by omega, rfl, y, bT, bC⟩
              case round =>
                clear y bT bC
                obtain ⟨q, hq, rfl, y, bT, bC⟩ := hrel
                obtain ⟨c0, c1, c2, c3, c4, c5, c6⟩ := cfc7 bC
                by_cases hqn : q < n
                · have hqz : (q : Int) < (n : Int) := by omega
                  have hkL : q < L.length := by have := hsl.len; omega
                  obtain ⟨lb, off, rfl, hlb, hx, _⟩ := (hsl.chg y).get hqn
                  have hmc := HE.out.map _ (mem_getD hkL)
                  have hv := HE.out.r1 _ (List.contains_iff_mem.1 hmc)
                  simp only at hv
                  have hT1 := HFIN.out (L.getD q 0)
                  rw [hmc, Bool.true_or, if_pos rfl] at hT1
                  clear hmc
                  generalize hvv : L.getD q 0 = v at *
                  clear hvv
                  obtain ⟨vn, rfl⟩ := Int.eq_ofNat_of_zero_le hv.1
                  have hvn : vn < 256 := by omega
                  have hvz : (vn : Int) < 256 := by omega
                  have dz := bT.cell vn
                  rw [numsA_get _ vn hvn, hT1] at dz
                  clear hT1
                  go_wp2_with fail
                  go_roundw
                  case rel => exact ⟨q + 1, by omega, by go_num, y, bT, bC⟩
                  case measure => simp [intOf]; omega
                · have hqz : ¬ (q : Int) < (n : Int) := by omega
                  obtain rfl : q = n := by omega
                  have HLEN : Hid (((x1 : Int) == (q : Int)) = true) := Lib.hid (by have h1 := HE.out.len; have h2 := HX1.out; have h3 := hsl.len; (try simp only at h1); simp; omega)
                  clear hsl
                  go_wp2_with fail
                  clear c0 c1 c2 c3 c4 c5 c6
                  go_loopw [10] (fun s wr => ∃ z : Nat, (z : Int) ≤ h ∧ s = .int .i64 z ∧ Chg [] w4 wr ∧ Blk wr w4.heap.size 29 (numsA T) ∧ Blk wr w.heap.size 24 #[.int .i64 h, .slice A q k, .int .i64 f, .int .i64 m, .int .i64 t, .int .i64 a, .int .i64 r]) (fun s _ => h.toNat - (intOf s).toNat)
                  case atStart => exact ⟨0, by omega, rfl, y, bT, bC⟩
                  case round =>
                    clear y bT bC
                    obtain ⟨z, hzh, rfl, y, bT, bC⟩ := hrel
                    obtain ⟨c0, c1, c2, c3, c4, c5, c6⟩ := cfc7 bC
                    by_cases hlt : (z : Int) < h
                    · have hz256 : z < 256 := by omega
                      have hzz : (z : Int) < 256 := by omega
                      have hpl := HE.out.all z (by omega) hlt
                      have hT1 := HFIN.out z
                      rw [hpl] at hT1
                      clear hpl
                      have dz := bT.cell z
                      rw [numsA_get _ z hz256] at dz
                      unfold Cf.pool at hT1
                      simp only at hT1
                      have hg0 : decide ((z : Int) < h) = true := by simpa using hlt
                      by_cases g1 : (z : Int) ≥ f
                      · have d1 : decide ((z : Int) ≥ f) = true := by simpa using g1
                        by_cases g2 : (z : Int) < f + m
                        · have d2 : decide ((z : Int) < f + m) = true := by simpa using g2
                          have hT2 : T (z : Int) = 0 := by rw [hT1]; simp; try omega
                          rw [hT2] at dz
                          clear hT1 hT2
                          go_wp2_with fail
                          go_roundw
                          case rel => exact ⟨z + 1, by omega, by go_num, y, bT, bC⟩
                          case measure => simp [intOf]; omega
                        · have d2 : decide ((z : Int) < f + m) = false := by simpa using g2
                          have hT2 : T (z : Int) = 1 := by rw [hT1]; simp; try omega
                          rw [hT2] at dz
                          clear hT1 hT2
                          go_wp2_with fail
                          go_roundw
                          case rel => exact ⟨z + 1, by omega, by go_num, y, bT, bC⟩
                          case measure => simp [intOf]; omega
                      · have d1 : decide ((z : Int) ≥ f) = false := by simpa using g1
                        have hT2 : T (z : Int) = 1 := by rw [hT1]; simp; try omega
                        rw [hT2] at dz
                        clear hT1 hT2
                        go_wp2_with fail
                        go_roundw
                        case rel => exact ⟨z + 1, by omega, by go_num, y, bT, bC⟩
                        case measure => simp [intOf]; omega
                    · have hg0 : decide ((z : Int) < h) = false := by simpa using hlt
                      have hle1 := HLEN.out
                      go_wp2_with fail
                      go_ret
                      exact ⟨rfl, hc.trans y (by simp)⟩

end Go.Proofs.Ytkggkdjhecagnaa
