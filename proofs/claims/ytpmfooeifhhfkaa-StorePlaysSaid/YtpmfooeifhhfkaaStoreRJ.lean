/-
  The document's store: Clear, Child, Leaf.
-/
import Derived.Test.YtpmfooeifhhfkaaStoreRI
namespace Go.Proofs.Ytpmfooeifhhfkaa
open Go.RowKit Go.Maps
/-- where slots lie: as they did, or in new blocks -/
def RNew (w : World) (R R' : List (Option Addr × Nat)) : Prop := ∀ r ∈ R', r ∈ R ∨ ∃ g, r.1 = some ⟨g, 0, none⟩ ∧ w.heap.size ≤ g
theorem RNew.refl (w : World) (R : List (Option Addr × Nat)) : RNew w R R := fun _ h => .inl h
theorem RNew.trans {w w' w1 : World} {S : List Nat} {R R' R'' : List (Option Addr × Nat)} (h : RNew w R R') (hc : Chg S w1 w') (h1 : w1.heap.size = w.heap.size) (h' : RNew w' R' R'') : RNew w R R'' := by
  intro r hr
  rcases h' r hr with h2 | ⟨g, e, hg⟩
  · exact h r h2
  · exact .inr ⟨g, e, by have := hc.size; omega⟩
/-- what a call that turns slots leaves -/
def RCh (q rp rb fp n a m : Nat) (s1 : Sr) (LA : Option Addr) (lc : Nat) (R : List (Option Addr × Nat)) (FS : List Nat) (u : Value) (w : World) (e : Ending) (w' : World) : Prop :=
  e = .returned u ∧ ∃ R', RStX w' q rp rb fp n a m s1 LA lc R' FS ∧ Chg (rb :: lB LA) w w' ∧ RNew w R R'
section
variable {q rp rb fp n a m : Nat} {s : Sr} {LA : Option Addr} {lc : Nat} {R : List (Option Addr × Nat)} {FS : List Nat}
theorem Rset_any (j : Nat) (pg : Pg) (i : Nat) (x : Slt) (f : Int) (w : World) (h : RStX w q rp rb fp n a m s LA lc R FS) (ok : SrOk n a m s) (hq : s.L[j]? = some pg) (hi : i < 8) (hk : x.kind ≠ 0 → 0 ≤ f ∧ f < 1048576) :
    Calls Try.prog 78 #[.pointer (some ⟨q, 0, none⟩), .int .i64 j, .int .i64 i, .agg x.cl.toArray, .int .i64 f] w (RCh q rp rb fp n a m (setS n s pg.f i x f) LA lc R FS (.tuple #[]) w) := by
  have h8 := ok.eight pg (List.mem_of_getElem? hq)
  have e : ∀ (e : Ending) (w' : World), SetQ q rp rb fp n a m s LA lc R FS j pg.f i x f w e w' → RCh q rp rb fp n a m (setS n s pg.f i x f) LA lc R FS (.tuple #[]) w e w' := by
    rintro e w' ⟨he, r', hr, y, g, hg, hl⟩
    refine ⟨he, _, hr, y, fun r hm => ?_⟩
    rcases List.mem_or_eq_of_mem_set hm with h | rfl
    · exact .inl h
    · exact .inr ⟨g, hg, hl⟩
  by_cases h0 : x.kind = 0
  · exact (Rset_no j pg i x f w h ok.ndL hq h8 hi h0).mono e
  · exact (Rset_yes j pg i x f w h ok.ndL hq h8 hi ⟨h0, hk h0⟩).mono e
/-- nothing of it has turned -/
theorem RCh.same {w w' : World} (h : RStX w q rp rb fp n a m s LA lc R FS) (y : Chg [] w w') (u : Value) : RCh q rp rb fp n a m s LA lc R FS u w (.returned u) w' :=
  ⟨rfl, R, h.new y, y.weak (by simp), RNew.refl _ _⟩
/-- a call from a world behind w -/
theorem RCh.from_ {w w1 w' : World} {s1 : Sr} {u : Value} {e : Ending} (y : Chg [] w w1) (h : RCh q rp rb fp n a m s1 LA lc R FS u w1 e w') (v : Value) : RCh q rp rb fp n a m s1 LA lc R FS v w (.returned v) w' := by
  obtain ⟨_, R', h1, h2, h3⟩ := h
  refine ⟨rfl, R', h1, (y.weak (by simp)).trans h2 (fun _ _ h => h), fun r hr => ?_⟩
  rcases h3 r hr with h4 | ⟨g, e, hg⟩
  · exact .inl h4
  · exact .inr ⟨g, e, by have := y.size; omega⟩
set_option maxRecDepth 100000 in
set_option maxHeartbeats 4000000 in
theorem RClear_any (p i : Int) (w : World) (h : RStX w q rp rb fp n a m s LA lc R FS) (ok : SrOk n a m s) :
    Calls Try.prog 53 #[.pointer (some ⟨q, 0, none⟩), .int .i64 p, .int .i64 i] w (RCh q rp rb fp n a m (clearS n s p i) LA lc R FS (.bool (clearB s p i)) w) := by
  have hS := RSlot_any p i w h ok.le256 ok.eight
  cases hsp : slotP s.L p i with
  | none =>
    have e1 : clearB s p i = false := by unfold clearB; rw [hsp]
    have e2 : clearS n s p i = s := by unfold clearS; rw [e1]; rfl
    have e3 : slotV s.L p i = Slt.no := by unfold slotV; rw [hsp]; rfl
    rw [e1, e2]
    rw [e3, hsp] at hS
    simp only [Slt.no, Slt.cl, Option.isSome_none] at hS
    clear e1 e2 e3 hsp
    go_enter Try.func53, Try.ntmps53
    go_wp2_with fail
    refine hS.mono ?_; rintro e w2 ⟨rfl, y2⟩
    clear hS
    have b3 := Blk.new w2 45 #[.int .i64 0, .int .i64 0, .bool false, .bool false, .bool false]
    go_wp2_with fail
    go_ret
    exact RCh.same h (y2.alloc _) _
  | some x =>
    have e3 : slotV s.L p i = x := by unfold slotV; rw [hsp]; rfl
    rw [e3, hsp] at hS
    clear e3
    obtain ⟨pg, hpg, hi0, hi7, hx⟩ := slotP_has hsp
    obtain ⟨I, rfl⟩ := Int.eq_ofNat_of_zero_le hi0
    obtain ⟨kd, tt, ⟨rw_, ru, rx⟩⟩ := x
    simp only [Slt.cl, Option.isSome_some] at hS
    by_cases hk : kd = 0
    · have e1 : clearB s p I = false := by unfold clearB; rw [hsp]; simp [hk]
      have e2 : clearS n s p I = s := by unfold clearS; rw [e1]; rfl
      subst hk
      rw [e1, e2]
      clear e1 e2 hsp hx hpg hi0 hi7
      go_enter Try.func53, Try.ntmps53
      go_wp2_with fail
      refine hS.mono ?_; rintro e w2 ⟨rfl, y2⟩
      clear hS
      have b3 := Blk.new w2 45 #[.int .i64 0, .int .i64 tt, .bool rw_, .bool ru, .bool rx]
      have x0 := b3.cell 0
      simp only [List.getElem?_toArray, List.getElem?_cons_zero] at x0
      go_wp2_with fail
      go_ret
      exact RCh.same h (y2.alloc _) _
    · have e1 : clearB s p I = true := by unfold clearB; rw [hsp]; simp [hk]
      have e2 : clearS n s p I = setS n s p I Slt.no 0 := by unfold clearS; rw [e1, if_pos rfl]
      rw [e1, e2]
      have hkb : (kd == 0) = false := by simpa using hk
      obtain ⟨j, hqj, hjl, eat⟩ : ∃ j, s.L[j]? = some pg ∧ j < s.L.length ∧ atI s.L p = (j : Int) := by
        rcases atI_pg s.L p with ⟨e, _⟩ | ⟨j, q', e1, e2, e3, e4⟩
        · rw [hpg] at e; cases e
        · rw [hpg] at e3; cases e3; exact ⟨j, e1, e2, e4⟩
      have hpf := (pgAt_mem hpg).2
      have hat := fun w' (y : Chg [] w w') => Rat_any p w' (h.new y) ok.le256
      rw [eat] at hat
      have hset := fun w' (y : Chg [] w w') => Rset_any j pg I Slt.no 0 w' (h.new y) ok hqj (by omega) (fun e => absurd rfl e)
      rw [hpf] at hset
      simp only [Slt.no, Slt.cl] at hset
      clear e1 e2 hsp hx hk eat
      go_enter Try.func53, Try.ntmps53
      go_wp2_with fail
      refine hS.mono ?_; rintro e w2 ⟨rfl, y2⟩
      clear hS
      have b3 := Blk.new w2 45 #[.int .i64 kd, .int .i64 tt, .bool rw_, .bool ru, .bool rx]
      have x0 := b3.cell 0
      simp only [List.getElem?_toArray, List.getElem?_cons_zero] at x0
      go_wp2_with fail
      have y3 := y2.alloc (.cells #[.int .i64 kd, .int .i64 tt, .bool rw_, .bool ru, .bool rx] 45)
      refine (hat _ y3).mono ?_; rintro e w4 ⟨rfl, y4⟩
      replace y4 := y3.trans y4 (by simp)
      go_wp2_with fail
      refine (hset _ y4).mono ?_; intro e w5 hr
      obtain ⟨rfl, _⟩ := id hr
      go_wp2_with fail
      go_ret
      exact hr.from_ y4 _
theorem at_pg (ok : SrOk n a m s) (p : Int) : (pgAt s.L p = none ∧ ∃ P : Int, atI s.L p = P ∧ P < 0) ∨ ∃ (j : Nat) (g : Pg), s.L[j]? = some g ∧ (j : Int) < (s.L.length : Int) ∧ pgAt s.L p = some g ∧ atI s.L p = (j : Int) ∧ g.f = p ∧ levP s.L p = g.k.lev ∧ (1 ≤ g.k.lev ∧ g.k.lev ≤ 3) ∧ (0 ≤ p ∧ p < 1048576) := by
  rcases atI_pg s.L p with ⟨e1, e2⟩ | ⟨j, g, e1, hj, e2, e3⟩
  · exact .inl ⟨e1, -1, e2, by omega⟩
  · have hm := List.mem_of_getElem? e1
    have hr := ok.right g hm
    unfold Ky.right at hr
    rw [decide_eq_true_eq] at hr
    have hin := ok.inL hm
    have hf := (pgAt_mem e2).2
    have := ok.le; have := ok.n256
    exact .inr ⟨j, g, e1, by omega, e2, e3, hf, by unfold levP; rw [e2]; rfl, by omega, by omega⟩
/-- what a page's level reads as -/
theorem RStX.lev {w : World} (h : RStX w q rp rb fp n a m s LA lc R FS) {j : Nat} {g : Pg} (hq : s.L[j]? = some g) : ∃ b, LA = some ⟨b, 0, none⟩ ∧ w.cell? ⟨b, j * 5 + 2, none⟩ = some (.int .i64 g.k.lev) := by
  obtain ⟨b, r, cs, e, _, _, _, _, d2, _⟩ := h.page0 hq
  exact ⟨b, e, d2⟩
set_option maxRecDepth 100000 in
set_option maxHeartbeats 8000000 in
theorem RChild_any (p i c : Int) (r : Rg) (w : World) (h : RStX w q rp rb fp n a m s LA lc R FS) (ok : SrOk n a m s) :
    Calls Try.prog 51 #[.pointer (some ⟨q, 0, none⟩), .int .i64 p, .int .i64 i, .int .i64 c, .agg r.cs] w (RCh q rp rb fp n a m (childS n s p i c r) LA lc R FS (.bool (childB s p i c)) w) := by
  have hat := fun (x : Int) w' (y : Chg [] w w') => Rat_any x w' (h.new y) ok.le256
  have y1 := (Chg.refl [] w).alloc (.cells r.cs 37)
  have br := Blk.new w 37 r.cs
  have hrl : w.heap.size < (w.alloc (.cells r.cs 37)).heap.size := by simp
  rcases at_pg ok p with ⟨hn, P, hP, hP0⟩ | ⟨j, g1, hj, hjl, hg1, hP, hf1, hl1, hb1, _⟩
  · have e1 : childB s p i c = false := by unfold childB hasS; rw [hn]; simp
    have e2 : childS n s p i c r = s := by unfold childS; rw [e1]; rfl
    rw [e1, e2]
    clear e1 e2
    have b1 : decide (P < 0) = true := decide_eq_true hP0
    have hatp := hat p
    have hatc := hat c
    clear hat
    rw [hP] at hatp
    generalize atI s.L c = C at hatc
    clear hn hP hP0
    obtain ⟨rw_, ru, rx⟩ := r
    simp only [Rg.cs] at *
    generalize hw1 : w.alloc (.cells #[.bool rw_, .bool ru, .bool rx] 37) = w1 at *
    replace hw1 := Lib.hid hw1
    obtain ⟨xb, hxb⟩ : ∃ xb, w.heap.size = xb := ⟨_, rfl⟩
    rw [hxb] at br hrl
    replace hxb := Lib.hid hxb
    go_enter Try.func51, Try.ntmps51
    go_wp2_with fail
    try rw [hw1.out, hxb.out]
    refine (hatp _ y1).mono ?_; rintro e w2 ⟨rfl, z2⟩
    have y2 := y1.trans z2 (by simp)
    go_wp2_with fail
    refine (hatc _ y2).mono ?_; rintro e w3 ⟨rfl, z3⟩
    have y3 := y2.trans z3 (by simp)
    go_wp2_with fail
    refine wp_region_cls (by kernel_rfl) (by kernel_rfl) ?_
    repeat (go_big_quiet_step (fail))
    refine wpQuiet_nil ?_
    rintro _ ⟨nq, rfl⟩
    go_wp2_with fail
    go_ret
    exact RCh.same h (y3.trans nq.ok (by simp)) _
  · rcases at_pg ok c with ⟨hn, C, hC, hC0⟩ | ⟨k, g2, hk, hkl, hg2, hC, hf2, hl2, hb2, hc6⟩
    · have e1 : childB s p i c = false := by unfold childB; rw [hn]; simp
      have e2 : childS n s p i c r = s := by unfold childS; rw [e1]; rfl
      rw [e1, e2]
      clear e1 e2
      have b1 : decide ((j : Int) < 0) = false := decide_eq_false (by omega)
      have b2 : decide (C < 0) = true := decide_eq_true hC0
      have hatp := hat p
      have hatc := hat c
      clear hat
      rw [hP] at hatp
      rw [hC] at hatc
      clear hn hP hC hC0 hg1 hj hl1 hb1
      obtain ⟨rw_, ru, rx⟩ := r
      simp only [Rg.cs] at *
      generalize hw1 : w.alloc (.cells #[.bool rw_, .bool ru, .bool rx] 37) = w1 at *
      replace hw1 := Lib.hid hw1
      obtain ⟨xb, hxb⟩ : ∃ xb, w.heap.size = xb := ⟨_, rfl⟩
      rw [hxb] at br hrl
      replace hxb := Lib.hid hxb
      go_enter Try.func51, Try.ntmps51
      go_wp2_with fail
      try rw [hw1.out, hxb.out]
      refine (hatp _ y1).mono ?_; rintro e w2 ⟨rfl, z2⟩
      have y2 := y1.trans z2 (by simp)
      go_wp2_with fail
      refine (hatc _ y2).mono ?_; rintro e w3 ⟨rfl, z3⟩
      have y3 := y2.trans z3 (by simp)
      go_wp2_with fail
      refine wp_region_cls (by kernel_rfl) (by kernel_rfl) ?_
      repeat (go_big_quiet_step (fail))
      refine wpQuiet_nil ?_
      rintro _ ⟨nq, rfl⟩
      go_wp2_with fail
      go_ret
      exact RCh.same h (y3.trans nq.ok (by simp)) _
    · have hatp := hat p
      have hatc := hat c
      clear hat
      rw [hP] at hatp
      rw [hC] at hatc
      have b1 : decide ((j : Int) < 0) = false := decide_eq_false (by omega)
      have b2 : decide ((k : Int) < 0) = false := decide_eq_false (by omega)
      by_cases hi0 : i < 0
      · have e1 : childB s p i c = false := by unfold childB hasS; simp; omega
        have e2 : childS n s p i c r = s := by unfold childS; rw [e1]; rfl
        rw [e1, e2]
        clear e1 e2
        have b3 : decide (i < 0) = true := decide_eq_true hi0
        clear hi0 hP hC hg1 hg2 hj hk hl1 hl2 hb1 hb2
        obtain ⟨rw_, ru, rx⟩ := r
        simp only [Rg.cs] at *
        generalize hw1 : w.alloc (.cells #[.bool rw_, .bool ru, .bool rx] 37) = w1 at *
        replace hw1 := Lib.hid hw1
        obtain ⟨xb, hxb⟩ : ∃ xb, w.heap.size = xb := ⟨_, rfl⟩
        rw [hxb] at br hrl
        replace hxb := Lib.hid hxb
        go_enter Try.func51, Try.ntmps51
        go_wp2_with fail
        try rw [hw1.out, hxb.out]
        refine (hatp _ y1).mono ?_; rintro e w2 ⟨rfl, z2⟩
        have y2 := y1.trans z2 (by simp)
        go_wp2_with fail
        refine (hatc _ y2).mono ?_; rintro e w3 ⟨rfl, z3⟩
        have y3 := y2.trans z3 (by simp)
        go_wp2_with fail
        refine wp_region_cls (by kernel_rfl) (by kernel_rfl) ?_
        repeat (go_big_quiet_step (fail))
        refine wpQuiet_nil ?_
        rintro _ ⟨nq, rfl⟩
        go_wp2_with fail
        go_ret
        exact RCh.same h (y3.trans nq.ok (by simp)) _
      · have b3 : decide (i < 0) = false := decide_eq_false hi0
        by_cases hi7 : i > 7
        · have e1 : childB s p i c = false := by unfold childB hasS; simp; omega
          have e2 : childS n s p i c r = s := by unfold childS; rw [e1]; rfl
          rw [e1, e2]
          clear e1 e2
          have b4 : decide (i > 7) = true := decide_eq_true hi7
          clear hi0 hi7 hP hC hg1 hg2 hj hk hl1 hl2 hb1 hb2
          obtain ⟨rw_, ru, rx⟩ := r
          simp only [Rg.cs] at *
          generalize hw1 : w.alloc (.cells #[.bool rw_, .bool ru, .bool rx] 37) = w1 at *
          replace hw1 := Lib.hid hw1
          obtain ⟨xb, hxb⟩ : ∃ xb, w.heap.size = xb := ⟨_, rfl⟩
          rw [hxb] at br hrl
          replace hxb := Lib.hid hxb
          go_enter Try.func51, Try.ntmps51
          go_wp2_with fail
          try rw [hw1.out, hxb.out]
          refine (hatp _ y1).mono ?_; rintro e w2 ⟨rfl, z2⟩
          have y2 := y1.trans z2 (by simp)
          go_wp2_with fail
          refine (hatc _ y2).mono ?_; rintro e w3 ⟨rfl, z3⟩
          have y3 := y2.trans z3 (by simp)
          go_wp2_with fail
          refine wp_region_cls (by kernel_rfl) (by kernel_rfl) ?_
          repeat (go_big_quiet_step (fail))
          refine wpQuiet_nil ?_
          rintro _ ⟨nq, rfl⟩
          go_wp2_with fail
          go_ret
          exact RCh.same h (y3.trans nq.ok (by simp)) _
        · have b4 : decide (i > 7) = false := decide_eq_false hi7
          have hjz : ¬ (j : Int) < 0 := by omega
          have hkz : ¬ (k : Int) < 0 := by omega
          generalize hlv1 : g1.k.lev = l1 at *
          generalize hlv2 : g2.k.lev = l2 at *
          skip
          have hRl1 : ∀ w' {LA : Option Addr}, RStX w' q rp rb fp n a m s LA lc R FS → ∃ b, LA = some ⟨b, 0, none⟩ ∧ w'.cell? ⟨b, j * 5 + 2, none⟩ = some (.int .i64 l1) := fun w' _ hh => by rw [← hlv1]; exact hh.lev hj
          have hRl2 : ∀ w' {LA : Option Addr}, RStX w' q rp rb fp n a m s LA lc R FS → ∃ b, LA = some ⟨b, 0, none⟩ ∧ w'.cell? ⟨b, k * 5 + 2, none⟩ = some (.int .i64 l2) := fun w' _ hh => by rw [← hlv2]; exact hh.lev hk
          by_cases hlev : l2 = l1 - 1
          · have e1 : childB s p i c = true := by unfold childB hasS; rw [hg1, hg2, hl1, hl2]; simp; omega
            have e2 : childS n s p i c r = setS n s p i ⟨1, c, r⟩ c := by unfold childS; rw [e1, if_pos rfl]
            rw [e1, e2]
            clear e1 e2
            obtain ⟨I, rfl⟩ := Int.eq_ofNat_of_zero_le (show 0 ≤ i by omega)
            have hset := fun w' (y : Chg [] w w') => Rset_any j g1 I ⟨1, c, r⟩ c w' (h.new y) ok hj (by omega) (fun _ => hc6)
            rw [hf1] at hset
            simp only [Slt.cl] at hset
            have hlb : (l2 != l1 - 1) = false := by simp [hlev]
            clear hlev hP hC hg1 hg2 hj hk hl1 hl2 hlv1 hlv2 hf1 hf2 hi0 hi7
            obtain ⟨rw_, ru, rx⟩ := r
            simp only [Rg.cs] at *
            generalize hw1 : w.alloc (.cells #[.bool rw_, .bool ru, .bool rx] 37) = w1 at *
            replace hw1 := Lib.hid hw1
            obtain ⟨xb, hxb⟩ : ∃ xb, w.heap.size = xb := ⟨_, rfl⟩
            rw [hxb] at br hrl
            replace hxb := Lib.hid hxb
            go_enter Try.func51, Try.ntmps51
            go_wp2_with fail
            try rw [hw1.out, hxb.out]
            refine (hatp _ y1).mono ?_; rintro e w2 ⟨rfl, z2⟩
            have y2 := y1.trans z2 (by simp)
            go_wp2_with fail
            refine (hatc _ y2).mono ?_; rintro e w3 ⟨rfl, z3⟩
            have y3 := y2.trans z3 (by simp)
            go_wp2_with fail
            have hr3 := h.new y3
            have q3 := hr3.st.cell 2
            simp only [List.getElem?_toArray, List.getElem?_cons_zero, List.getElem?_cons_succ] at q3
            obtain ⟨b, rfl, d2⟩ := hRl1 _ hr3
            obtain ⟨b', eb, e2⟩ := hRl2 _ hr3
            cases eb
            have K0 := fun nq : Cls w3 => nq.cell q3
            have K1 := fun nq : Cls w3 => nq.cell d2
            have K2 := fun nq : Cls w3 => nq.cell e2
            clear q3 d2 e2 hr3 hRl1 hRl2
            refine wp_region_cls (by kernel_rfl) (by kernel_rfl) ?_
            repeat (go_big_quiet_step (fail))
            refine wpQuiet_nil ?_
            rintro _ ⟨nq, rfl⟩
            have br3 := br.chg_ (z2.trans (z3.trans nq.ok (by simp)) (by simp)) (by simp)
            have x0 := br3.cell 0; have x1 := br3.cell 1; have x2 := br3.cell 2
            simp only [List.getElem?_toArray, List.getElem?_cons_zero, List.getElem?_cons_succ] at x0 x1 x2
            go_wp2_with fail
            refine (hset _ (y3.trans nq.ok (by simp))).mono ?_; intro e w5 hr
            obtain ⟨rfl, _⟩ := id hr
            go_wp2_with fail
            go_ret
            exact hr.from_ (y3.trans nq.ok (by simp)) _
          · have e1 : childB s p i c = false := by unfold childB; rw [hl1, hl2]; simp [hlev]
            have e2 : childS n s p i c r = s := by unfold childS; rw [e1]; rfl
            rw [e1, e2]
            clear e1 e2
            have hlb : (l2 != l1 - 1) = true := by simp [hlev]
            clear hlev hP hC hg1 hg2 hj hk hl1 hl2 hlv1 hlv2 hf1 hf2 hi0 hi7
            obtain ⟨rw_, ru, rx⟩ := r
            simp only [Rg.cs] at *
            generalize hw1 : w.alloc (.cells #[.bool rw_, .bool ru, .bool rx] 37) = w1 at *
            replace hw1 := Lib.hid hw1
            obtain ⟨xb, hxb⟩ : ∃ xb, w.heap.size = xb := ⟨_, rfl⟩
            rw [hxb] at br hrl
            replace hxb := Lib.hid hxb
            go_enter Try.func51, Try.ntmps51
            go_wp2_with fail
            try rw [hw1.out, hxb.out]
            refine (hatp _ y1).mono ?_; rintro e w2 ⟨rfl, z2⟩
            have y2 := y1.trans z2 (by simp)
            go_wp2_with fail
            refine (hatc _ y2).mono ?_; rintro e w3 ⟨rfl, z3⟩
            have y3 := y2.trans z3 (by simp)
            go_wp2_with fail
            have hr3 := h.new y3
            have q3 := hr3.st.cell 2
            simp only [List.getElem?_toArray, List.getElem?_cons_zero, List.getElem?_cons_succ] at q3
            obtain ⟨b, rfl, d2⟩ := hRl1 _ hr3
            obtain ⟨b', eb, e2⟩ := hRl2 _ hr3
            cases eb
            have K0 := fun nq : Cls w3 => nq.cell q3
            have K1 := fun nq : Cls w3 => nq.cell d2
            have K2 := fun nq : Cls w3 => nq.cell e2
            clear q3 d2 e2 hr3 hRl1 hRl2
            refine wp_region_cls (by kernel_rfl) (by kernel_rfl) ?_
            repeat (go_big_quiet_step (fail))
            refine wpQuiet_nil ?_
            rintro _ ⟨nq, rfl⟩
            go_wp2_with fail
            go_ret
            exact RCh.same h (y3.trans nq.ok (by simp)) _
set_option maxRecDepth 100000 in
set_option maxHeartbeats 8000000 in
theorem RLeaf_any (p i g x : Int) (r : Rg) (w : World) (h : RStX w q rp rb fp n a m s LA lc R FS) (ok : SrOk n a m s) :
    Calls Try.prog 52 #[.pointer (some ⟨q, 0, none⟩), .int .i64 p, .int .i64 i, .int .i64 g, .int .i64 x, .agg r.cs] w (RCh q rp rb fp n a m (leafS n s p i g x r) LA lc R FS (.bool (leafB n s p i x)) w) := by
  have hat := fun (x : Int) w' (y : Chg [] w w') => Rat_any x w' (h.new y) ok.le256
  have y1 := (Chg.refl [] w).alloc (.cells r.cs 37)
  have br := Blk.new w 37 r.cs
  have hrl : w.heap.size < (w.alloc (.cells r.cs 37)).heap.size := by simp
  have hatp := hat p
  clear hat
  rcases at_pg ok p with ⟨hn, P, hP, hP0⟩ | ⟨j, g1, hj, hjl, hg1, hP, hf1, hl1, hb1, _⟩
  · have e1 : leafB n s p i x = false := by unfold leafB hasS; rw [hn]; simp
    have e2 : leafS n s p i g x r = s := by unfold leafS; rw [e1]; rfl
    rw [e1, e2]
    clear e1 e2
    have b1 : decide (P < 0) = true := decide_eq_true hP0
    rw [hP] at hatp
    clear hn hP hP0
    obtain ⟨rw_, ru, rx⟩ := r
    simp only [Rg.cs] at *
    generalize hw1 : w.alloc (.cells #[.bool rw_, .bool ru, .bool rx] 37) = w1 at *
    replace hw1 := Lib.hid hw1
    obtain ⟨xb, hxb⟩ : ∃ xb, w.heap.size = xb := ⟨_, rfl⟩
    rw [hxb] at br hrl
    replace hxb := Lib.hid hxb
    go_enter Try.func52, Try.ntmps52
    go_wp2_with fail
    try rw [hw1.out, hxb.out]
    refine (hatp _ y1).mono ?_; rintro e w2 ⟨rfl, z2⟩
    have y2 := y1.trans z2 (by simp)
    go_wp2_with fail
    go_ret
    exact RCh.same h y2 _
  · rw [hP] at hatp
    have b1 : decide ((j : Int) < 0) = false := decide_eq_false (by omega)
    by_cases hi0 : i < 0
    · have e1 : leafB n s p i x = false := by unfold leafB hasS; simp; omega
      have e2 : leafS n s p i g x r = s := by unfold leafS; rw [e1]; rfl
      rw [e1, e2]
      clear e1 e2
      have b3 : decide (i < 0) = true := decide_eq_true hi0
      clear hi0 hP hg1 hj hl1 hb1
      obtain ⟨rw_, ru, rx⟩ := r
      simp only [Rg.cs] at *
      generalize hw1 : w.alloc (.cells #[.bool rw_, .bool ru, .bool rx] 37) = w1 at *
      replace hw1 := Lib.hid hw1
      obtain ⟨xb, hxb⟩ : ∃ xb, w.heap.size = xb := ⟨_, rfl⟩
      rw [hxb] at br hrl
      replace hxb := Lib.hid hxb
      go_enter Try.func52, Try.ntmps52
      go_wp2_with fail
      try rw [hw1.out, hxb.out]
      refine (hatp _ y1).mono ?_; rintro e w2 ⟨rfl, z2⟩
      have y2 := y1.trans z2 (by simp)
      go_wp2_with fail
      go_ret
      exact RCh.same h y2 _
    · have b3 : decide (i < 0) = false := decide_eq_false hi0
      by_cases hi7 : i > 7
      · have e1 : leafB n s p i x = false := by unfold leafB hasS; simp; omega
        have e2 : leafS n s p i g x r = s := by unfold leafS; rw [e1]; rfl
        rw [e1, e2]
        clear e1 e2
        have b4 : decide (i > 7) = true := decide_eq_true hi7
        clear hi0 hi7 hP hg1 hj hl1 hb1
        obtain ⟨rw_, ru, rx⟩ := r
        simp only [Rg.cs] at *
        generalize hw1 : w.alloc (.cells #[.bool rw_, .bool ru, .bool rx] 37) = w1 at *
        replace hw1 := Lib.hid hw1
        obtain ⟨xb, hxb⟩ : ∃ xb, w.heap.size = xb := ⟨_, rfl⟩
        rw [hxb] at br hrl
        replace hxb := Lib.hid hxb
        go_enter Try.func52, Try.ntmps52
        go_wp2_with fail
        try rw [hw1.out, hxb.out]
        refine (hatp _ y1).mono ?_; rintro e w2 ⟨rfl, z2⟩
        have y2 := y1.trans z2 (by simp)
        go_wp2_with fail
        go_ret
        exact RCh.same h y2 _
      · have b4 : decide (i > 7) = false := decide_eq_false hi7
        have hjz : ¬ (j : Int) < 0 := by omega
        generalize hlv1 : g1.k.lev = l1 at *
        have hRl1 : ∀ w' {LA : Option Addr}, RStX w' q rp rb fp n a m s LA lc R FS → ∃ b, LA = some ⟨b, 0, none⟩ ∧ w'.cell? ⟨b, j * 5 + 2, none⟩ = some (.int .i64 l1) := fun w' _ hh => by rw [← hlv1]; exact hh.lev hj
        by_cases hlev : l1 = 1
        · have hlb : (l1 != 1) = false := by simp [hlev]
          by_cases hx0 : x < 0
          · have e1 : leafB n s p i x = false := by unfold leafB; simp; omega
            have e2 : leafS n s p i g x r = s := by unfold leafS; rw [e1]; rfl
            rw [e1, e2]
            clear e1 e2
            have b5 : decide (x < 0) = true := decide_eq_true hx0
            clear hlev hP hg1 hj hl1 hlv1 hf1 hi0 hi7
            obtain ⟨rw_, ru, rx⟩ := r
            simp only [Rg.cs] at *
            generalize hw1 : w.alloc (.cells #[.bool rw_, .bool ru, .bool rx] 37) = w1 at *
            replace hw1 := Lib.hid hw1
            obtain ⟨xb, hxb⟩ : ∃ xb, w.heap.size = xb := ⟨_, rfl⟩
            rw [hxb] at br hrl
            replace hxb := Lib.hid hxb
            go_enter Try.func52, Try.ntmps52
            go_wp2_with fail
            try rw [hw1.out, hxb.out]
            refine (hatp _ y1).mono ?_; rintro e w2 ⟨rfl, z2⟩
            have y2 := y1.trans z2 (by simp)
            have hr2 := h.new y2
            have q2 := hr2.st.cell 2; have q0 := hr2.st.cell 0
            simp only [List.getElem?_toArray, List.getElem?_cons_zero, List.getElem?_cons_succ] at q0 q2
            obtain ⟨b, rfl, d2⟩ := hRl1 _ hr2
            have hFr := RFrames_any rp rb n s.W w2 hr2.hm
            clear hr2 hRl1
            go_wp2_with fail
            go_ret
            exact RCh.same h y2 _
          · have b5 : decide (x < 0) = false := decide_eq_false hx0
            by_cases hxn : x ≥ (n : Int)
            · have e1 : leafB n s p i x = false := by unfold leafB; simp; omega
              have e2 : leafS n s p i g x r = s := by unfold leafS; rw [e1]; rfl
              rw [e1, e2]
              clear e1 e2
              have b6 : decide (x ≥ (n : Int)) = true := decide_eq_true hxn
              clear hlev hP hg1 hj hl1 hlv1 hf1 hi0 hi7
              clear hx0
              obtain ⟨rw_, ru, rx⟩ := r
              simp only [Rg.cs] at *
              generalize hw1 : w.alloc (.cells #[.bool rw_, .bool ru, .bool rx] 37) = w1 at *
              replace hw1 := Lib.hid hw1
              obtain ⟨xb, hxb⟩ : ∃ xb, w.heap.size = xb := ⟨_, rfl⟩
              rw [hxb] at br hrl
              replace hxb := Lib.hid hxb
              go_enter Try.func52, Try.ntmps52
              go_wp2_with fail
              try rw [hw1.out, hxb.out]
              refine (hatp _ y1).mono ?_; rintro e w2 ⟨rfl, z2⟩
              have y2 := y1.trans z2 (by simp)
              have hr2 := h.new y2
              have q2 := hr2.st.cell 2; have q0 := hr2.st.cell 0
              simp only [List.getElem?_toArray, List.getElem?_cons_zero, List.getElem?_cons_succ] at q0 q2
              obtain ⟨b, rfl, d2⟩ := hRl1 _ hr2
              have hFr := RFrames_any rp rb n s.W w2 hr2.hm
              clear hr2 hRl1
              go_wp2_with fail
              refine hFr.mono ?_; rintro e w3 ⟨rfl, rfl⟩
              go_wp2_with fail
              go_ret
              exact RCh.same h y2 _
            · have b6 : decide (x ≥ (n : Int)) = false := decide_eq_false hxn
              have hn6 := ok.n256
              have e1 : leafB n s p i x = true := by unfold leafB hasS; rw [hg1, hl1]; simp; omega
              have e2 : leafS n s p i g x r = setS n s p i ⟨2, g, r⟩ x := by unfold leafS; rw [e1, if_pos rfl]
              rw [e1, e2]
              clear e1 e2
              obtain ⟨I, rfl⟩ := Int.eq_ofNat_of_zero_le (show 0 ≤ i by omega)
              have hset := fun w' (y : Chg [] w w') => Rset_any j g1 I ⟨2, g, r⟩ x w' (h.new y) ok hj (by omega) (fun _ => by omega)
              rw [hf1] at hset
              simp only [Slt.cl] at hset
              clear hlev hP hg1 hj hl1 hlv1 hf1 hi0 hi7
              clear hx0 hxn
              obtain ⟨rw_, ru, rx⟩ := r
              simp only [Rg.cs] at *
              generalize hw1 : w.alloc (.cells #[.bool rw_, .bool ru, .bool rx] 37) = w1 at *
              replace hw1 := Lib.hid hw1
              obtain ⟨xb, hxb⟩ : ∃ xb, w.heap.size = xb := ⟨_, rfl⟩
              rw [hxb] at br hrl
              replace hxb := Lib.hid hxb
              go_enter Try.func52, Try.ntmps52
              go_wp2_with fail
              try rw [hw1.out, hxb.out]
              refine (hatp _ y1).mono ?_; rintro e w2 ⟨rfl, z2⟩
              have y2 := y1.trans z2 (by simp)
              have hr2 := h.new y2
              have q2 := hr2.st.cell 2; have q0 := hr2.st.cell 0
              simp only [List.getElem?_toArray, List.getElem?_cons_zero, List.getElem?_cons_succ] at q0 q2
              obtain ⟨b, rfl, d2⟩ := hRl1 _ hr2
              have hFr := RFrames_any rp rb n s.W w2 hr2.hm
              clear hr2 hRl1
              go_wp2_with fail
              refine hFr.mono ?_; rintro e w3 ⟨rfl, rfl⟩
              have br3 := br.chg_ z2 (by simp)
              have x0 := br3.cell 0; have x1 := br3.cell 1; have x2 := br3.cell 2
              simp only [List.getElem?_toArray, List.getElem?_cons_zero, List.getElem?_cons_succ] at x0 x1 x2
              go_wp2_with fail
              refine (hset _ y2).mono ?_; intro e w5 hr
              obtain ⟨rfl, _⟩ := id hr
              go_wp2_with fail
              go_ret
              exact hr.from_ y2 _
        · have e1 : leafB n s p i x = false := by unfold leafB; rw [hl1]; simp [hlev]
          have e2 : leafS n s p i g x r = s := by unfold leafS; rw [e1]; rfl
          rw [e1, e2]
          clear e1 e2
          have hlb : (l1 != 1) = true := by simp [hlev]
          clear hlev hP hg1 hj hl1 hlv1 hf1 hi0 hi7
          obtain ⟨rw_, ru, rx⟩ := r
          simp only [Rg.cs] at *
          generalize hw1 : w.alloc (.cells #[.bool rw_, .bool ru, .bool rx] 37) = w1 at *
          replace hw1 := Lib.hid hw1
          obtain ⟨xb, hxb⟩ : ∃ xb, w.heap.size = xb := ⟨_, rfl⟩
          rw [hxb] at br hrl
          replace hxb := Lib.hid hxb
          go_enter Try.func52, Try.ntmps52
          go_wp2_with fail
          try rw [hw1.out, hxb.out]
          refine (hatp _ y1).mono ?_; rintro e w2 ⟨rfl, z2⟩
          have y2 := y1.trans z2 (by simp)
          have hr2 := h.new y2
          have q2 := hr2.st.cell 2; have q0 := hr2.st.cell 0
          simp only [List.getElem?_toArray, List.getElem?_cons_zero, List.getElem?_cons_succ] at q0 q2
          obtain ⟨b, rfl, d2⟩ := hRl1 _ hr2
          have hFr := RFrames_any rp rb n s.W w2 hr2.hm
          clear hr2 hRl1
          go_wp2_with fail
          go_ret
          exact RCh.same h y2 _
end

end Go.Proofs.Ytpmfooeifhhfkaa
