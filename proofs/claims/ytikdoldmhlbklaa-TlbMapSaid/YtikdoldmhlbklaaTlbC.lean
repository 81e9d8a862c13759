/-
  The contract of slices.IndexFunc at hits.
-/
import Derived.Test.YtikdoldmhlbklaaTlbB
namespace Go.Proofs.Ytikdoldmhlbklaa
open Go.RowKit

/-- the place of the first one of which q holds, or -1 -/
def firstI (q : Ht → Bool) (L : List Ht) : Int := if L.any q then (L.findIdx q : Int) else -1

theorem first_hit {q : Ht → Bool} {L : List Ht} {k : Nat} (hk : k < L.length) (h1 : q (L.getD k default) = true) (h0 : ∀ j, j < k → q (L.getD j default) = false) : firstI q L = k := by
  have e : L.getD k default = L[k] := by simp [List.getD_eq_getElem?_getD, List.getElem?_eq_getElem hk]
  rw [e] at h1
  have h2 : L.any q = true := List.any_eq_true.2 ⟨_, List.getElem_mem hk, h1⟩
  unfold firstI
  rw [h2, if_pos rfl, (List.findIdx_eq hk).2 ⟨h1, fun j hj => by
    have := h0 j hj
    rw [List.getD_eq_getElem?_getD, List.getElem?_eq_getElem (show j < L.length by omega), Option.getD_some] at this
    simp [this]⟩]
theorem first_miss {q : Ht → Bool} {L : List Ht} (h0 : ∀ j, j < L.length → q (L.getD j default) = false) : firstI q L = -1 := by
  have h2 : L.any q = false := by
    rw [List.any_eq_false]
    intro x hx
    obtain ⟨j, hj, rfl⟩ := List.getElem_of_mem hx
    have := h0 j hj
    rw [List.getD_eq_getElem?_getD, List.getElem?_eq_getElem hj, Option.getD_some] at this
    simp [this]
  unfold firstI
  rw [h2]; rfl

set_option maxHeartbeats 2000000 in
theorem indexFunc_any (q : Ht → Bool) (g : Nat) (kb : Nat) (eg : ∀ args w, (callFunc g args).run Try.prog w = .ok (.enter g args) w) (A : Option Addr) (n c : Nat) (L : List Ht) (w : World)
    (hp : ∀ (h : Ht) (W : World), Chg [] w W → Calls Try.prog g #[h.v, .pointer (some ⟨kb, 0, none⟩)] W fun e w' => e = .returned (.bool (q h)) ∧ Chg [] W w') (hl : SlH w A n L) :
    Calls Try.prog 35 #[.slice A n c, .func (.func g) #[] #[.pointer (some ⟨kb, 0, none⟩)]] w fun e w' => e = .returned (.int .i64 (firstI q L)) ∧ Chg [] w w' := by
  have hlen := hl.len; have hle := hl.le
  have HL := Lib.hid hlen; clear hlen
  go_enter Try.func35, Try.ntmps35
  go_wp2
  go_loopg [5, 8] n (fun gg _ s8 wr => ∃ kk : Nat, kk ≤ n ∧ n - kk ≤ gg ∧ s8 = .int .i64 kk ∧ Aside (Chg [] w wr) ∧ Aside (∀ j, j < kk → q (L.getD j default) = false))
  case atStart => exact ⟨0, Nat.zero_le _, by omega, rfl, Chg.refl _ w, fun j hj => absurd hj (Nat.not_lt_zero _)⟩
  case round =>
    obtain ⟨kk, hkk, hg, rfl, BW, HA⟩ := hrel
    by_cases hlt : kk < n
    · have hltz : (kk : Int) < (n : Int) := by omega
      obtain ⟨b, off, rfl, hb, hc⟩ := (hl.new BW.out).get hlt
      have hcall := hp (L.getD kk default) wr BW.out
      obtain ⟨c0, c1, c2, c3, c4, c5, c6⟩ := hc
      clear hp
      unfold Ht.v at hcall
      generalize hy : L.getD kk default = y at *
      have B : Aside (L.getD kk default = y) := hy
      clear hy
      cases hq : q y with
      | true =>
        rw [hq] at hcall
        go_wp2_with fail
        refine hcall.mono ?_; rintro e w' ⟨rfl, hb'⟩
        go_wp2_with fail
        go_ret
        refine ⟨?_, BW.out.trans hb' (by simp)⟩
        rw [first_hit (by have := HL.out; omega) (by rw [B.out]; exact hq) HA.out]; rfl
      | false =>
        rw [hq] at hcall
        go_wp2_with fail
        refine hcall.mono ?_; rintro e w' ⟨rfl, hb'⟩
        go_wp2_with fail
        go_roundg (n - (kk + 1))
        case measure => omega
        case rel =>
          refine ⟨kk + 1, by omega, by omega, by go_num, (show Aside _ from BW.out.trans hb' (by simp)), (show Aside _ from fun j hj => ?_)⟩
          by_cases e : j = kk
          · subst e
            rw [B.out]; exact hq
          · exact HA.out j (by omega)
    · have hltz : ¬ (kk : Int) < (n : Int) := by omega
      have : kk = n := by omega
      subst this
      go_wp2
      go_ret
      refine ⟨?_, BW.out⟩
      rw [first_miss (fun j hj => HA.out j (by have := HL.out; omega))]; rfl

end Go.Proofs.Ytikdoldmhlbklaa
