/-
  The contracts of free as the laws use them; the live question 'head'.
-/
import Derived.Test.YteccjemmdaalpaaRefreeC
namespace Go.Proofs.Yteccjemmdaalpaa
open Go.RowKit Go.Maps

theorem FLeft_is (S : List Nat) (p a n : Nat) (L : List Int) (w : World) (h : FAt w S p a n L) :
    Calls Try.prog 16 #[.pointer (some ⟨p, 0, none⟩)] w fun e w' => e = .returned (.int .i64 L.length) ∧ Chg [] w w' :=
  (FLeft_at S p a n L w h).mono fun _ _ ⟨he, q, hq⟩ => ⟨he, hq ▸ (Chg.refl _ _).drewN q⟩
theorem FTake_is (S : List Nat) (p a n : Nat) (L : List Int) (f : Int) (w : World) (h : FAt w S p a n (L ++ [f])) :
    Calls Try.prog 14 #[.pointer (some ⟨p, 0, none⟩)] w fun e w' => e = .returned (.tuple #[.int .i64 f, .bool true]) ∧ Chg S w w' ∧ FAt w' S p a n L :=
  (FTake_at S p a n _ w h).mono fun _ _ ⟨he, hc, h'⟩ => ⟨by rw [he, takeV_app, takeB_app], hc, by rw [List.dropLast_concat] at h'; exact h'⟩
theorem FTake_none (S : List Nat) (p a n : Nat) (w : World) (h : FAt w S p a n []) :
    Calls Try.prog 14 #[.pointer (some ⟨p, 0, none⟩)] w fun e w' => e = .returned (.tuple #[.int .i64 0, .bool false]) ∧ Chg S w w' ∧ FAt w' S p a n [] :=
  (FTake_at S p a n _ w h).mono fun _ _ ⟨he, hc, h'⟩ => ⟨he, hc, h'⟩
theorem FGive_is (S : List Nat) (p a n : Nat) (L : List Int) (f : Int) (w : World) (h : FAt w S p a n L) (hf : -9223372036854775808 ≤ f ∧ f ≤ 9223372036854775807) (hg : giveB a n L f = true) :
    Calls Try.prog 12 #[.pointer (some ⟨p, 0, none⟩), .int .i64 f] w fun e w' => e = .returned (.bool true) ∧ ∃ S', Chg S w w' ∧ FAt w' S' p a n (L ++ [f]) ∧ Grew w S S' :=
  (FGive_at S p a n L f w h hf).mono fun _ _ ⟨S', he, hc, h', hG⟩ => ⟨by rw [he, hg], S', hc, by rw [giveL, hg, if_pos rfl] at h'; exact h', hG⟩
theorem FGive_not (S : List Nat) (p a n : Nat) (L : List Int) (f : Int) (w : World) (h : FAt w S p a n L) (hf : -9223372036854775808 ≤ f ∧ f ≤ 9223372036854775807) (hg : giveB a n L f = false) :
    Calls Try.prog 12 #[.pointer (some ⟨p, 0, none⟩), .int .i64 f] w fun e w' => e = .returned (.bool false) ∧ ∃ S', Chg S w w' ∧ FAt w' S' p a n L ∧ Grew w S S' :=
  (FGive_at S p a n L f w h hf).mono fun _ _ ⟨S', he, hc, h', hG⟩ => ⟨by rw [he, hg], S', hc, by rw [giveL, hg, if_neg (by simp)] at h'; exact h', hG⟩

theorem FHas_is (S : List Nat) (p a n : Nat) (L : List Int) (f : Int) (t : Bool) (w : World) (h : FAt w S p a n L) (hf : -9223372036854775808 ≤ f ∧ f ≤ 9223372036854775807) (ht : freeB L f = t) :
    Calls Try.prog 18 #[.pointer (some ⟨p, 0, none⟩), .int .i64 f] w fun e w' => e = .returned (.bool t) ∧ Chg [] w w' := ht ▸ FHas_at S p a n L f w h hf
theorem FAt.self {w w' : World} {S : List Nat} {p a n : Nat} {L : List Int} (h : FAt w S p a n L) (hc : Chg [] w w') : FAt w' S p a n L := h.chg hc (by simp)

set_option maxRecDepth 100000 in
set_option maxHeartbeats 2000000 in
theorem Fhead_any (w : World) : Calls Try.prog 9 #[] w fun e w' => e = .returned (.bool true) ∧ Chg [] w w' := by
  have x1 : giveB 4 3 [6] 4 = true := by decide
  have x2 : giveB 4 3 [6, 4] 4 = false := by decide
  have x3 : giveB 4 3 [6, 4] 6 = false := by decide
  have x4 : freeB [] 4 = false := by decide
  have X1 := Lib.hid x1; have X2 := Lib.hid x2; have X3 := Lib.hid x3; have X4 := Lib.hid x4
  clear x1 x2 x3 x4
  go_enter Try.func9, Try.ntmps9
  go_wp2_with fail
  refine (FNew_at 4 3 _ (by omega)).mono ?_; rintro e w1 ⟨p, S, rfl, hc1, h1, hS⟩
  go_wp2_with fail
  refine (FNew_no (-1) 2 _ (by omega) (by omega)).mono ?_; rintro e w' ⟨rfl, rfl⟩
  go_wp2_with fail
  refine (FNew_no 200 57 _ (by omega) (by omega)).mono ?_; rintro e w' ⟨rfl, rfl⟩
  go_wp2_with fail
  refine (FTake_is S p 4 3 [6, 5] 4 _ h1).mono ?_; rintro e w2 ⟨rfl, hc2, h2⟩
  have hca := hc1.trans hc2 (fun i hi hm => absurd (hS i hm) (by omega))
  clear hc1 h1 hc2
  go_wp2_with fail
  refine (FTake_is S p 4 3 [6] 5 _ h2).mono ?_; rintro e w3 ⟨rfl, hc3, h3⟩
  have hcb := hca.trans hc3 (fun i hi hm => absurd (hS i hm) (by omega))
  clear hca h2 hc3
  go_wp2_with fail
  refine (FGive_is S p 4 3 [6] 4 _ h3 (by omega) X1.out).mono ?_; rintro e w4 ⟨rfl, S4, hc4, h4, hG4⟩
  have hcc := hcb.trans hc4 (fun i hi hm => absurd (hS i hm) (by omega))
  have hS4 : ∀ i ∈ S4, w.heap.size ≤ i := fun i hi => (hG4 i hi).elim (hS i) (fun h => Nat.le_trans hcb.size h)
  clear hcb h3 hc4 hG4 hS
  go_wp2_with fail
  refine (FGive_not S4 p 4 3 [6, 4] 4 _ h4 (by omega) X2.out).mono ?_; rintro e w5 ⟨rfl, S5, hc5, h5, hG5⟩
  have hcd := hcc.trans hc5 (fun i hi hm => absurd (hS4 i hm) (by omega))
  have hS5 : ∀ i ∈ S5, w.heap.size ≤ i := fun i hi => (hG5 i hi).elim (hS4 i) (fun h => Nat.le_trans hcc.size h)
  clear hcc h4 hc5 hG5 hS4
  go_wp2_with fail
  refine (FGive_not S5 p 4 3 [6, 4] 6 _ h5 (by omega) X3.out).mono ?_; rintro e w6 ⟨rfl, S6, hc6, h6, hG6⟩
  have hce := hcd.trans hc6 (fun i hi hm => absurd (hS5 i hm) (by omega))
  have hS6 : ∀ i ∈ S6, w.heap.size ≤ i := fun i hi => (hG6 i hi).elim (hS5 i) (fun h => Nat.le_trans hcd.size h)
  clear hcd h5 hc6 hG6 hS5
  go_wp2_with fail
  refine (FTake_is S6 p 4 3 [6] 4 _ h6).mono ?_; rintro e w7 ⟨rfl, hc7, h7⟩
  have hcf := hce.trans hc7 (fun i hi hm => absurd (hS6 i hm) (by omega))
  clear hce h6 hc7
  go_wp2_with fail
  refine (FTake_is S6 p 4 3 [] 6 _ h7).mono ?_; rintro e w8 ⟨rfl, hc8, h8⟩
  have hcg := hcf.trans hc8 (fun i hi hm => absurd (hS6 i hm) (by omega))
  clear hcf h7 hc8
  go_wp2_with fail
  refine (FTake_none S6 p 4 3 _ h8).mono ?_; rintro e w9 ⟨rfl, hc9, h9⟩
  have hch := hcg.trans hc9 (fun i hi hm => absurd (hS6 i hm) (by omega))
  clear hcg h8 hc9
  go_wp2_with fail
  refine (FLeft_is S6 p 4 3 [] _ h9).mono ?_; rintro e w10 ⟨rfl, hc10⟩
  have h10 := h9.self hc10
  have hci := hch.trans hc10 (by simp)
  clear h9 hc10 hch
  go_wp2_with fail
  refine (FHas_at S6 p 4 3 [] 4 _ h10 (by omega)).mono ?_; rintro e w11 ⟨rfl, hc11⟩
  rw [X4.out]
  have hcj := hci.trans hc11 (by simp)
  clear h10 hc11 hci
  go_wp2_with fail
  refine (FNew_at 0 0 _ (by omega)).mono ?_; rintro e w12 ⟨p2, S2, rfl, hc12, h12, hS2⟩
  have hck := hcj.trans hc12 (by simp)
  clear hcj hc12
  go_wp2_with fail
  refine (FLeft_is S2 p2 0 0 [] _ h12).mono ?_; rintro e w13 ⟨rfl, hc13⟩
  have hcl := hck.trans hc13 (by simp)
  clear hck hc13 h12
  go_wp2_with fail
  go_ret
  exact ⟨rfl, hcl⟩

end Go.Proofs.Yteccjemmdaalpaa
