/-
  The contracts of conf's small functions: in, sized, owner; slices.ContainsFunc.
-/
import Derived.Test.YtkggkdjhecagnaaConfP
import Derived.Test.YtkggkdjhecagnaaG2
import Derived.Test.YtkggkdjhecagnaaG3
import Derived.Deep.LoopGhost
namespace Go.Proofs.Ytkggkdjhecagnaa
open Go.RowKit Go.Maps

def I64 (x : Int) : Prop := -9223372036854775808 ≤ x ∧ x ≤ 9223372036854775807
/-- the cells of a machine, whose list has n elements -/
def Cf.cs (c : Cf) (A : Option Addr) (n k : Nat) : Array Value := #[.int .i64 c.host, .slice A n k, .int .i64 c.first, .int .i64 c.many, .int .i64 c.tlb, .int .i64 c.asids, .int .i64 c.root]
structure Cf.Wf (c : Cf) : Prop where
  host : I64 c.host
  first : I64 c.first
  many : I64 c.many
  tlb : I64 c.tlb
  asids : I64 c.asids
  root : I64 c.root

theorem in_any (n a b : Int) (w : World) : Calls Try.prog 33 #[.int .i64 n, .int .i64 a, .int .i64 b] w fun e w' => e = .returned (.bool (decide (a ≤ n ∧ n ≤ b))) ∧ w = w' := by
  by_cases h1 : n ≥ a
  · by_cases h2 : n ≤ b
    all_goals
      go_enter Try.func33, Try.ntmps33
      go_wp2
      go_ret
      exact ⟨ret_bool (by simp; omega), rfl⟩
  · go_enter Try.func33, Try.ntmps33
    go_wp2
    go_ret
    exact ⟨ret_bool (by simp; omega), rfl⟩
theorem in_is (n a b : Int) (t : Bool) (w : World) (h : decide (a ≤ n ∧ n ≤ b) = t) : Calls Try.prog 33 #[.int .i64 n, .int .i64 a, .int .i64 b] w fun e w' => e = .returned (.bool t) ∧ w = w' := h ▸ in_any n a b w

def szB (c : Cf) : Bool := decide ((1 ≤ c.tlb ∧ c.tlb ≤ 64) ∧ (1 ≤ c.asids ∧ c.asids ≤ 8) ∧ (0 ≤ c.root ∧ c.root ≤ 255))
set_option maxHeartbeats 1000000 in
theorem sized_any (c : Cf) (A : Option Addr) (n k : Nat) (w : World) : Calls Try.prog 26 #[.agg (c.cs A n k)] w fun e w' => e = .returned (.bool (szB c)) ∧ Chg [] w w' := by
  obtain ⟨h, L, f, m, t, a, r⟩ := c
  unfold Cf.cs szB
  simp only
  cases h1 : decide (1 ≤ t ∧ t ≤ 64) with
  | false =>
    have e : decide ((1 ≤ t ∧ t ≤ 64) ∧ (1 ≤ a ∧ a ≤ 8) ∧ (0 ≤ r ∧ r ≤ 255)) = false := by rw [decide_eq_false_iff_not] at h1 ⊢; exact fun k => h1 k.1
    rw [e]
    have H1 := fun w => in_is t 1 64 _ w h1
    clear h1 e
    go_enter Try.func26, Try.ntmps26
    go_wp2_with fail
    refine (H1 _).mono ?_; rintro e w1 ⟨rfl, rfl⟩
    go_wp2_with fail
    go_ret
    exact ⟨rfl, (Chg.refl [] w).alloc _⟩
  | true =>
    have h1' := of_decide_eq_true h1
    cases h2 : decide (1 ≤ a ∧ a ≤ 8) with
    | false =>
      have e : decide ((1 ≤ t ∧ t ≤ 64) ∧ (1 ≤ a ∧ a ≤ 8) ∧ (0 ≤ r ∧ r ≤ 255)) = false := by rw [decide_eq_false_iff_not] at h2 ⊢; exact fun k => h2 k.2.1
      rw [e]
      have H1 := fun w => in_is t 1 64 _ w h1
      have H2 := fun w => in_is a 1 8 _ w h2
      clear h1 e h2 h1'
      go_enter Try.func26, Try.ntmps26
      go_wp2_with fail
      refine (H1 _).mono ?_; rintro e w1 ⟨rfl, rfl⟩
      go_wp2_with fail
      refine (H2 _).mono ?_; rintro e w1 ⟨rfl, rfl⟩
      go_wp2_with fail
      go_ret
      exact ⟨rfl, (Chg.refl [] w).alloc _⟩
    | true =>
      have h2' := of_decide_eq_true h2
      cases h3 : decide (0 ≤ r ∧ r ≤ 255)
      all_goals
        have e : decide ((1 ≤ t ∧ t ≤ 64) ∧ (1 ≤ a ∧ a ≤ 8) ∧ (0 ≤ r ∧ r ≤ 255)) = decide (0 ≤ r ∧ r ≤ 255) := by
          rw [Bool.eq_iff_iff, decide_eq_true_eq, decide_eq_true_eq]; exact ⟨fun k => k.2.2, fun k => ⟨h1', h2', k⟩⟩
        rw [e, h3]
        have H1 := fun w => in_is t 1 64 _ w h1
        have H2 := fun w => in_is a 1 8 _ w h2
        have H3 := fun w => in_is r 0 255 _ w h3
        clear h1 e h2 h1' h2' h3
        go_enter Try.func26, Try.ntmps26
        go_wp2_with fail
        refine (H1 _).mono ?_; rintro e w1 ⟨rfl, rfl⟩
        go_wp2_with fail
        refine (H2 _).mono ?_; rintro e w1 ⟨rfl, rfl⟩
        go_wp2_with fail
        refine (H3 _).mono ?_; rintro e w1 ⟨rfl, rfl⟩
        go_wp2_with fail
        go_ret
        exact ⟨rfl, (Chg.refl [] w).alloc _⟩
theorem sized_is (c : Cf) (A : Option Addr) (n k : Nat) (t : Bool) (w : World) (ht : szB c = t) : Calls Try.prog 26 #[.agg (c.cs A n k)] w fun e w' => e = .returned (.bool t) ∧ Chg [] w w' := ht ▸ sized_any c A n k w

/-- what a map is to those who ask it for the guest's frames alone -/
def GW (w : World) (p : Nat) (L : List Int) : Prop := ∃ m v n, Blk w p 61 #[v, .map (some m)] ∧ IntM Try.prog 3 3 w m n (locO L)
/-- a list of free frames of which none is ever taken -/
def FW (w : World) (q a n : Nat) : Prop := ∃ m c v, Blk w q 65 #[.int .i64 a, .int .i64 a, .int .i64 (a + n), v, .map (some m)] ∧ SetM Try.prog 3 w m c (fun _ => false) ∧ a + n ≤ 256
theorem GAt.gw {w : World} {S : List Nat} {p : Nat} {L : List Int} (h : GAt w S p L) : GW w p L := by
  obtain ⟨m, v, h1, _, _⟩ := h
  exact ⟨m, v, _, h1.st, h1.mp⟩
theorem FIn.fw {w : World} {p m a n : Nat} {v : Value} (h : FIn w p m a n a v []) : FW w p a n := by
  have hs : SetM Try.prog 3 w m (a - a - ([] : List Int).length) (fun _ => false) := h.mp.congr fun x => by simp [takenB]; try omega
  exact ⟨m, _, v, h.st, hs, h.le⟩
theorem GW.new {w w' : World} {p : Nat} {L : List Int} (h : GW w p L) (hc : Chg [] w w') : GW w' p L := by
  obtain ⟨m, v, n, h1, h2⟩ := h; exact ⟨m, v, n, h1.chg_ hc (by simp), h2.chg hc (by simp)⟩
theorem FW.new {w w' : World} {q a n : Nat} (h : FW w q a n) (hc : Chg [] w w') : FW w' q a n := by
  obtain ⟨m, c, v, h1, h2, h3⟩ := h; exact ⟨m, c, v, h1.chg_ hc (by simp), h2.chg hc (by simp), h3⟩

set_option maxHeartbeats 400000 in
theorem GWGuest_at (p : Nat) (L : List Int) (h0 : Int) (w : World) (h : GW w p L) (hf : I64 h0) :
    Calls Try.prog 35 #[.pointer (some ⟨p, 0, none⟩), .int .i64 h0] w fun e w' => e = .returned (.tuple #[.int .i64 ((locO L h0).getD 0), .bool (L.contains h0)]) ∧ Chg [] w w' := by
  rw [← locO_some]
  obtain ⟨m, v, n, hst, hm⟩ := h
  have c0 := hst.cell 0; have c1 := hst.cell 1
  simp only [List.getElem?_toArray, List.getElem?_cons_succ, List.getElem?_cons_zero] at c0 c1
  have hwf := WalkArith.wf_i64 hf
  clear hst
  go_enter Try.func35, Try.ntmps35
  go_wp2_with (at_lookup; refine wpList_lookup_intM rfl _ _ 59 rfl lawI Try.underlying59 Try.underlying3 Try.underlying3 (zeroI _) m _ _ rfl hm h0 rfl hwf ?_)
  go_ret2
  exact ⟨rfl, Chg.refl _ _⟩

def poolB (a n : Nat) (f : Int) : Bool := decide ((a : Int) ≤ f ∧ f < a + n)
set_option maxHeartbeats 400000 in
theorem FWHas_at (q a n : Nat) (f : Int) (w : World) (h : FW w q a n) (hf : I64 f) :
    Calls Try.prog 28 #[.pointer (some ⟨q, 0, none⟩), .int .i64 f] w fun e w' => e = .returned (.bool (poolB a n f)) ∧ Chg [] w w' := by
  obtain ⟨m, cn, v, hst, hm, h3⟩ := h
  have c0 := hst.cell 0; have c2 := hst.cell 2; have c4 := hst.cell 4
  simp only [List.getElem?_toArray, List.getElem?_cons_succ, List.getElem?_cons_zero] at c0 c2 c4
  have hwf := WalkArith.wf_i64 hf
  have hlt := hst.lt
  clear hst
  have hp : q ≠ w.heap.size := Nat.ne_of_lt hlt
  have d0 := (World.cell?_alloc_old w (Obj.cells #[] 68) ⟨q, 0, none⟩ hp).trans c0
  have d2 := (World.cell?_alloc_old w (Obj.cells #[] 68) ⟨q, 2, none⟩ hp).trans c2
  unfold poolB
  obtain ⟨S, hS⟩ : ∃ S : Int → Bool, (fun _ => false) = S := ⟨_, rfl⟩
  rw [hS] at hm
  have ht : S f = false := by rw [← hS]
  clear hS
  by_cases h1 : (a : Int) ≤ f
  · by_cases h2 : f < a + n
    · go_enter Try.func28, Try.ntmps28
      go_wp2_with (at_lookup; refine wpList_lookup_set rfl _ _ 63 rfl 68 lawI Try.underlying63 Try.underlying3 (zeroU _) m _ _ rfl hm f rfl hwf ?_; rw [ht])
      go_ret
      exact ⟨ret_bool (by simp [h1, h2]), (Chg.refl _ _).alloc _⟩
    · go_enter Try.func28, Try.ntmps28
      go_wp2_with (at_lookup; refine wpList_lookup_set rfl _ _ 63 rfl 68 lawI Try.underlying63 Try.underlying3 (zeroU _) m _ _ rfl hm f rfl hwf ?_; rw [ht])
      go_ret
      exact ⟨ret_bool (by simp [h2]), (Chg.refl _ _).alloc _⟩
  · go_enter Try.func28, Try.ntmps28
    go_wp2_with (at_lookup; refine wpList_lookup_set rfl _ _ 63 rfl 68 lawI Try.underlying63 Try.underlying3 (zeroU _) m _ _ rfl hm f rfl hwf ?_; rw [ht])
    go_ret
    exact ⟨ret_bool (by simp; try omega), (Chg.refl _ _).alloc _⟩

/-- whose a frame is -/
def ownV (L : List Int) (a n : Nat) (f : Int) : Int := if L.contains f then 1 else if poolB a n f then 2 else 0
set_option maxHeartbeats 1000000 in
theorem owner_any (p q a n : Nat) (L : List Int) (f : Int) (w : World) (h1 : GW w p L) (h2 : FW w q a n) (hf : I64 f) :
    Calls Try.prog 31 #[.agg #[.pointer (some ⟨p, 0, none⟩), .pointer (some ⟨q, 0, none⟩)], .int .i64 f] w fun e w' => e = .returned (.int .i64 (ownV L a n f)) ∧ Chg [] w w' := by
  have hG := fun (w' : World) (hc : Chg [] w w') => GWGuest_at p L f w' (h1.new hc) hf
  have hH := fun (w' : World) (hc : Chg [] w w') => FWHas_at q a n f w' (h2.new hc) hf
  clear h1 h2 hf
  unfold ownV
  generalize (locO L f).getD 0 = z at *
  cases hc : L.contains f with
  | true =>
    rw [hc] at hG
    clear hc
    go_enter Try.func31, Try.ntmps31
    go_wp2_with fail
    refine (hG _ ((Chg.refl [] w).alloc _)).mono ?_; rintro e w1 ⟨rfl, k1⟩
    go_wp2_with fail
    go_ret
    exact ⟨rfl, ((Chg.refl [] w).alloc _).trans k1 (by simp)⟩
  | false =>
    rw [hc] at hG
    clear hc
    cases hp : poolB a n f
    all_goals
      rw [hp] at hH
      clear hp
      go_enter Try.func31, Try.ntmps31
      go_wp2_with fail
      refine (hG _ ((Chg.refl [] w).alloc _)).mono ?_; rintro e w1 ⟨rfl, k1⟩
      have k2 : Chg [] w w1 := ((Chg.refl [] w).alloc _).trans k1 (by simp)
      have hb := (Blk.new w 34 #[.pointer (some ⟨p, 0, none⟩), .pointer (some ⟨q, 0, none⟩)]).chg_ k1 (by simp)
      have c0 := hb.cell 0; have c1 := hb.cell 1
      simp only [List.getElem?_toArray, List.getElem?_cons_succ, List.getElem?_cons_zero] at c0 c1
      clear hb k1
      go_wp2_with fail
      refine (hH _ k2).mono ?_; rintro e w2 ⟨rfl, k3⟩
      go_wp2_with fail
      go_ret
      exact ⟨rfl, k2.trans k3 (by simp)⟩

set_option maxHeartbeats 2000000 in
theorem indexF_any (q : Int → Bool) (g pb : Nat) (eg : ∀ args w, (callFunc g args).run Try.prog w = .ok (.enter g args) w) (A : Option Addr) (n c : Nat) (L : List Int) (w : World)
    (hp : ∀ (x : Int) (W : World), I64 x → Chg [] w W → Calls Try.prog g #[.pointer (some ⟨pb, 0, none⟩), .int .i64 x] W fun e w' => e = .returned (.bool (q x)) ∧ Chg [] W w') (hl : SlK .i64 w A n L) :
    Calls Try.prog 34 #[.slice A n c, .func (.func g) #[.pointer (some ⟨pb, 0, none⟩)] #[]] w fun e w' => ∃ z : Int, e = .returned (.int .i64 z) ∧ decide (z ≥ 0) = L.any q ∧ Chg [] w w' := by
  have hlen := hl.len; have hle := hl.le
  have HL := Lib.hid hlen; clear hlen
  have HW := Lib.hid hl.wf
  go_enter Try.func34, Try.ntmps34
  go_wp2
  go_loopg [5, 8] n (fun gg _ s8 wr => ∃ kk : Nat, kk ≤ n ∧ n - kk ≤ gg ∧ s8 = .int .i64 kk ∧ Aside (Chg [] w wr) ∧ Aside (∀ j, j < kk → q (L.getD j 0) = false))
  case atStart => exact ⟨0, Nat.zero_le _, by omega, rfl, Chg.refl _ w, fun j hj => absurd hj (Nat.not_lt_zero _)⟩
  case round =>
    obtain ⟨kk, hkk, hg, rfl, BW, HA⟩ := hrel
    by_cases hlt : kk < n
    · have hltz : (kk : Int) < (n : Int) := by omega
      obtain ⟨b, off, rfl, hb, hc⟩ := (hl.chg BW.out).get hlt
      have hx64 : I64 (L.getD kk 0) := getD_wf HW.out kk (by have := HL.out; omega)
      have hcall := hp (L.getD kk 0) wr hx64 BW.out
      clear hp hx64
      generalize hy : L.getD kk 0 = y at *
      have B : Aside (L.getD kk 0 = y) := hy
      clear hy
      cases hq : q y with
      | true =>
        rw [hq] at hcall
        go_wp2_with fail
        refine hcall.mono ?_; rintro e w' ⟨rfl, hb'⟩
        go_wp2_with fail
        go_ret
        refine ⟨_, rfl, ?_, BW.out.trans hb' (by simp)⟩
        rw [List.any_eq_true.2 ⟨y, ?_, hq⟩]; simp
        rw [← B.out, List.getD_eq_getElem?_getD, List.getElem?_eq_getElem (by have := HL.out; omega)]
        exact List.getElem_mem _
      | false =>
        rw [hq] at hcall
        go_wp2_with fail
        refine hcall.mono ?_; rintro e w' ⟨rfl, hb'⟩
        go_wp2_with fail
        go_roundg (n - (kk + 1))
        case measure => omega
        case rel =>
          refine ⟨kk + 1, by omega, by omega, by go_num, (show Aside _ from BW.out.trans hb' (by simp)), (show Aside _ from fun j hj => ?_)⟩
          by_cases e : j = kk
          · subst e
            rw [B.out]; exact hq
          · exact HA.out j (by omega)
    · have hltz : ¬ (kk : Int) < (n : Int) := by omega
      have : kk = n := by omega
      subst this
      go_wp2_with fail
      go_ret
      refine ⟨_, rfl, ?_, BW.out⟩
      rw [List.any_eq_false.2]; simp
      intro x hx
      obtain ⟨j, hj, rfl⟩ := List.getElem_of_mem hx
      have := HA.out j (by have := HL.out; omega)
      rw [List.getD_eq_getElem?_getD, List.getElem?_eq_getElem hj, Option.getD_some] at this
      simp [this]

set_option maxHeartbeats 400000 in
theorem containsF_any (q : Int → Bool) (t : Bool) (g pb : Nat) (eg : ∀ args w, (callFunc g args).run Try.prog w = .ok (.enter g args) w) (A : Option Addr) (n c : Nat) (L : List Int) (w : World)
    (hp : ∀ (x : Int) (W : World), I64 x → Chg [] w W → Calls Try.prog g #[.pointer (some ⟨pb, 0, none⟩), .int .i64 x] W fun e w' => e = .returned (.bool (q x)) ∧ Chg [] W w') (hl : SlK .i64 w A n L) (ht : L.any q = t) :
    Calls Try.prog 27 #[.slice A n c, .func (.func g) #[.pointer (some ⟨pb, 0, none⟩)] #[]] w fun e w' => e = .returned (.bool t) ∧ Chg [] w w' := by
  subst ht
  have hI := indexF_any q g pb eg A n c L w hp hl
  clear hp hl eg
  go_enter Try.func27, Try.ntmps27
  go_wp2_with fail
  refine hI.mono ?_; rintro e w1 ⟨z, rfl, hz, k⟩
  go_wp2_with fail
  go_ret
  exact ⟨ret_bool (by first | rfl | exact hz), k⟩

end Go.Proofs.Ytkggkdjhecagnaa
