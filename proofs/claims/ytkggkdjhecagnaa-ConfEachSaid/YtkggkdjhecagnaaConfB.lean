/-
  The contract of conf's made.
-/
import Derived.Test.YtkggkdjhecagnaaConfA
namespace Go.Proofs.Ytkggkdjhecagnaa
open Go.RowKit Go.Maps

theorem cfc7 {w : World} {g : Nat} {t : TypeId} {x0 x1 x2 x3 x4 x5 x6 : Value} (h : Blk w g t #[x0, x1, x2, x3, x4, x5, x6]) : w.cell? ⟨g, 0, none⟩ = some x0 ∧ w.cell? ⟨g, 1, none⟩ = some x1 ∧ w.cell? ⟨g, 2, none⟩ = some x2 ∧ w.cell? ⟨g, 3, none⟩ = some x3 ∧ w.cell? ⟨g, 4, none⟩ = some x4 ∧ w.cell? ⟨g, 5, none⟩ = some x5 ∧ w.cell? ⟨g, 6, none⟩ = some x6 :=
  ⟨h.cell 0, h.cell 1, h.cell 2, h.cell 3, h.cell 4, h.cell 5, h.cell 6⟩
theorem cf_ret2 {P : Program} {fn : Func} {p q : Tmp} {ty : TypeId} (h : fn.results = #[.cell p ty, .tmp q]) {tmps : Array Value} {w : World} {g : Nat} {t : TypeId} {cs : Array Value} {d : TypeDesc} {v : Value} (hb : Blk w g t cs)
    (hp : tmps.getD p undef = .pointer (some ⟨g, 0, none⟩)) (hq : tmps.getD q undef = v) (hu : P.underlying ty = some d) (hd : (match d with | .struct _ | .array _ _ => true | _ => false) = true) (hi : (P.info? ty).map (·.size) = some cs.size) :
    (results fn tmps).run P w = .ok (.tuple #[.agg cs, v]) w := by
  have hp' : tmps[p]?.getD undef = .pointer (some ⟨g, 0, none⟩) := by simpa using hp
  have hq' : tmps[q]?.getD undef = v := by simpa using hq
  simp [results, h, hp', hq', asAddr, run_loadVar_row w g t ty cs (0, 0) d hb hu hd hi]
theorem set2 {w : World} {g : Nat} {t : TypeId} {x0 x1 : Value} (y0 y1 : Value) (h : Blk w g t #[x0, x1]) : Blk ((w.setCell ⟨g, 0, none⟩ y0).setCell ⟨g, 1, none⟩ y1) g t #[y0, y1] := by
  have := (h.set_ 0 y0).set_ 1 y1; simpa using this
theorem chg2 {S : List Nat} {a w : World} {g : Nat} (y0 y1 : Value) (h : Chg S a w) (hg : g < a.heap.size → g ∈ S) : Chg S a ((w.setCell ⟨g, 0, none⟩ y0).setCell ⟨g, 1, none⟩ y1) :=
  (h.setCell (p := ⟨g, 0, none⟩) hg y0).setCell (p := ⟨g, 1, none⟩) hg y1

/-- what New of gmap, of free, gave -/
def ImgP (L : List Int) (h : Int) (x : Option Addr) (w : World) : Prop := (x = none ∧ ¬ OkL L h) ∨ ∃ p, x = some ⟨p, 0, none⟩ ∧ GW w p L ∧ OkL L h
def PooP (f m : Int) (x : Option Addr) (w : World) : Prop := (x = none ∧ ¬ (0 ≤ f ∧ 0 ≤ m ∧ f + m ≤ 256)) ∨ ∃ q, x = some ⟨q, 0, none⟩ ∧ FW w q f.toNat m.toNat ∧ (0 ≤ f ∧ 0 ≤ m ∧ f + m ≤ 256)
section
variable {w w' : World} {L : List Int} {h f m : Int} {x : Option Addr} {g : Nat} {cs : Array Value}
theorem GW.chgM {p : Nat} (H : GW w p L) (hg : Blk w g 34 cs) (hc : Chg [g] w w') : GW w' p L := by
  obtain ⟨b, v, n, h1, h2⟩ := H
  exact ⟨b, v, n, h1.chg_ hc (by have := Blk.type_ne h1 hg (by decide); simpa using this), h2.chg hc (by have := h2.blk_ne hg; simpa using this)⟩
theorem FW.chgM {q a n : Nat} (H : FW w q a n) (hg : Blk w g 34 cs) (hc : Chg [g] w w') : FW w' q a n := by
  obtain ⟨b, c, v, h1, h2, h3⟩ := H
  exact ⟨b, c, v, h1.chg_ hc (by have := Blk.type_ne h1 hg (by decide); simpa using this), h2.chg hc (by have := h2.blk_ne hg; simpa using this), h3⟩
theorem ImgP.new (H : ImgP L h x w) (hc : Chg [] w w') : ImgP L h x w' := H.imp id fun ⟨p, e, h1, h2⟩ => ⟨p, e, h1.new hc, h2⟩
theorem PooP.new (H : PooP f m x w) (hc : Chg [] w w') : PooP f m x w' := H.imp id fun ⟨p, e, h1, h2⟩ => ⟨p, e, h1.new hc, h2⟩
theorem ImgP.chgM (H : ImgP L h x w) (hg : Blk w g 34 cs) (hc : Chg [g] w w') : ImgP L h x w' := H.imp id fun ⟨p, e, h1, h2⟩ => ⟨p, e, h1.chgM hg hc, h2⟩
theorem PooP.chgM (H : PooP f m x w) (hg : Blk w g 34 cs) (hc : Chg [g] w w') : PooP f m x w' := H.imp id fun ⟨p, e, h1, h2⟩ => ⟨p, e, h1.chgM hg hc, h2⟩
end
theorem GNew_img (A : Option Addr) (n k : Nat) (L : List Int) (h : Int) (w : World) (hs : SlK .i64 w A n L) :
    Calls Try.prog 24 #[.slice A n k, .int .i64 h] w fun e w' => ∃ x, e = .returned (.pointer x) ∧ Chg [] w w' ∧ ImgP L h x w' :=
  (GNew_at A n k L h w hs).mono fun _ _ he => he.elim (fun ⟨k1, k2, k3⟩ => ⟨_, k1, k2, .inl ⟨rfl, k3⟩⟩) fun ⟨p, _, k1, k2, k3, _, k5⟩ => ⟨_, k1, k2, .inr ⟨p, rfl, k3.gw, k5⟩⟩
theorem FNew_poo (f m : Int) (w : World) (hm : I64 m) :
    Calls Try.prog 25 #[.int .i64 f, .int .i64 m] w fun e w' => ∃ x, e = .returned (.pointer x) ∧ Chg [] w w' ∧ PooP f m x w' := by
  by_cases h : 0 ≤ f ∧ 0 ≤ m ∧ f + m ≤ 256
  · obtain ⟨h1, h2, h3⟩ := h
    obtain ⟨a, rfl⟩ := Int.eq_ofNat_of_zero_le h1
    obtain ⟨b, rfl⟩ := Int.eq_ofNat_of_zero_le h2
    exact (FNew_in a b w (by omega)).mono fun _ _ ⟨k1, k2, k3⟩ => ⟨_, k1, k2, .inr ⟨_, rfl, k3.fw, by omega⟩⟩
  · exact (FNew_no f m w hm (by omega)).mono fun _ _ ⟨k1, k2⟩ => ⟨_, k1, k2 ▸ Chg.refl _ _, .inl ⟨rfl, h⟩⟩

/-- such a machine there is -/
structure Cf.OkB (c : Cf) : Prop where
  map : OkL c.map c.host
  pool : 0 ≤ c.first ∧ 0 ≤ c.many ∧ c.first + c.many ≤ 256
  sz : szB c = true
  room : c.first + c.many ≤ c.host
  apart : (c.map.any (poolB c.first.toNat c.many.toNat)) = false
theorem Cf.okB {c : Cf} : c.Ok ↔ c.OkB := by
  constructor
  · intro h
    have h1 := h.map.2.2.2.1
    refine ⟨h.map, ⟨h.first, h.many, by have := h.room; omega⟩, ?_, h.room, ?_⟩
    · unfold szB; rw [decide_eq_true_eq]; exact ⟨h.tlb, h.asids, h.root⟩
    · rw [List.any_eq_false]
      intro x hx
      have := h.apart x hx
      unfold Cf.pool at this
      unfold poolB
      rw [decide_eq_false_iff_not] at this
      have h2 := h.first; have h3 := h.many
      simp; omega
  · intro h
    have hz := h.sz
    unfold szB at hz
    rw [decide_eq_true_eq] at hz
    refine ⟨h.map, h.pool.1, h.pool.2.1, h.room, fun x hx => ?_, hz.1, hz.2.1, hz.2.2⟩
    have := List.any_eq_false.1 h.apart x hx
    unfold poolB at this
    unfold Cf.pool
    have h2 := h.pool
    rw [decide_eq_false_iff_not]
    simp at this; omega

/-- what made answers -/
def MadeP (c : Cf) (w : World) (e : Ending) (w' : World) : Prop := Chg [] w w' ∧ ((e = .returned (.tuple #[.agg #[.pointer none, .pointer none], .bool false]) ∧ ¬ c.Ok) ∨
  ∃ p q, e = .returned (.tuple #[.agg #[.pointer (some ⟨p, 0, none⟩), .pointer (some ⟨q, 0, none⟩)], .bool true]) ∧ GW w' p c.map ∧ FW w' q c.first.toNat c.many.toNat ∧ c.Ok)

set_option maxRecDepth 100000 in
set_option maxHeartbeats 8000000 in
theorem made_at (c : Cf) (A : Option Addr) (n k : Nat) (w : World) (hs : SlK .i64 w A n c.map) (hw : c.Wf) :
    Calls Try.prog 17 #[.agg (c.cs A n k)] w (MadeP c w) := by
  have hno : ∀ {e : Ending} {w' : World}, e = .returned (.tuple #[.agg #[.pointer none, .pointer none], .bool false]) → Chg [] w w' → ¬ c.Ok → MadeP c w e w' := fun he hc h => ⟨hc, .inl ⟨he, h⟩⟩
  have hyes : ∀ {e : Ending} {w' : World} {p q : Nat}, e = .returned (.tuple #[.agg #[.pointer (some ⟨p, 0, none⟩), .pointer (some ⟨q, 0, none⟩)], .bool true]) → Chg [] w w' → GW w' p c.map → FW w' q c.first.toNat c.many.toNat → c.Ok → MadeP c w e w' := fun he hc h1 h2 h => ⟨hc, .inr ⟨_, _, he, h1, h2, h⟩⟩
  generalize MadeP c w = R at *
  have hE : Hid (c.OkB → c.Ok) := Lib.hid Cf.okB.2
  have hE1 : Hid (c.Ok → c.OkB) := Lib.hid Cf.okB.1
  have hG : ∀ W, Chg [] w W → Calls Try.prog 24 #[.slice A n k, .int .i64 c.host] W fun e w' => ∃ x, e = .returned (.pointer x) ∧ Chg [] W w' ∧ ImgP c.map c.host x w' := fun W hc => GNew_img A n k c.map c.host W (hs.chg hc)
  have hF : ∀ W, Calls Try.prog 25 #[.int .i64 c.first, .int .i64 c.many] W fun e w' => ∃ x, e = .returned (.pointer x) ∧ Chg [] W w' ∧ PooP c.first c.many x w' := fun W => FNew_poo c.first c.many W hw.many
  have hZ := fun W => sized_any c A n k W
  generalize hsz : szB c = sz at hZ
  have HSZ := Lib.hid hsz
  clear hsz
  have hC : ∀ W, Chg [] w W → ∀ q, FW W q c.first.toNat c.many.toNat → Calls Try.prog 27 #[.slice A n k, .func (.func 28) #[.pointer (some ⟨q, 0, none⟩)] #[]] W fun e w' => e = .returned (.bool (c.map.any (poolB c.first.toNat c.many.toNat))) ∧ Chg [] W w' := fun W hc q hq => containsF_any (poolB c.first.toNat c.many.toNat) _ 28 q (enters_of Try.func28 (by kernel_rfl) rfl) A n k c.map W (fun x W' hx hc' => FWHas_at q _ _ x W' (hq.new hc') hx) (hs.chg hc) rfl
  have hmf : ∀ (fn : Fn) (first cap : Array Value) (w : World), (Instr.makeFunc fn first cap).run Try.prog w = .ok (.func fn first cap) w := fun _ _ _ _ => rfl
  have HF := Lib.hid hw.first
  have HM := Lib.hid hw.many
  clear hs hw
  obtain ⟨h, L, f, m, t, a, r⟩ := c
  unfold Cf.cs at *
  simp only at *
  generalize hct : L.any (poolB f.toNat m.toNat) = ct at hC
  have HCT := Lib.hid hct
  clear hct
  go_enter Try.func17, Try.ntmps17
  go_wp2_with fail
  have hc1 : Chg [] w ((w.alloc (.cells #[.int .i64 h, .slice A n k, .int .i64 f, .int .i64 m, .int .i64 t, .int .i64 a, .int .i64 r] 24)).alloc (.cells #[.pointer none, .pointer none] 34)) := ((Chg.refl [] w).alloc _).alloc _
  have hb1 : Blk ((w.alloc (.cells #[.int .i64 h, .slice A n k, .int .i64 f, .int .i64 m, .int .i64 t, .int .i64 a, .int .i64 r] 24)).alloc (.cells #[.pointer none, .pointer none] 34)) w.heap.size 24 #[.int .i64 h, .slice A n k, .int .i64 f, .int .i64 m, .int .i64 t, .int .i64 a, .int .i64 r] := (Blk.new w 24 #[.int .i64 h, .slice A n k, .int .i64 f, .int .i64 m, .int .i64 t, .int .i64 a, .int .i64 r]).alloc _
  have hb2 : Blk ((w.alloc (.cells #[.int .i64 h, .slice A n k, .int .i64 f, .int .i64 m, .int .i64 t, .int .i64 a, .int .i64 r] 24)).alloc (.cells #[.pointer none, .pointer none] 34)) (w.heap.size + 1) 34 #[.pointer none, .pointer none] := by have := Blk.new (w.alloc (.cells #[.int .i64 h, .slice A n k, .int .i64 f, .int .i64 m, .int .i64 t, .int .i64 a, .int .i64 r] 24)) 34 #[.pointer none, .pointer none]; simpa using this
  have hsz1 : ((w.alloc (.cells #[.int .i64 h, .slice A n k, .int .i64 f, .int .i64 m, .int .i64 t, .int .i64 a, .int .i64 r] 24)).alloc (.cells #[.pointer none, .pointer none] 34)).heap.size = w.heap.size + 2 := by simp
  generalize ((w.alloc (.cells #[.int .i64 h, .slice A n k, .int .i64 f, .int .i64 m, .int .i64 t, .int .i64 a, .int .i64 r] 24)).alloc (.cells #[.pointer none, .pointer none] 34)) = w1 at *
  have HSZ1 := Lib.hid hsz1
  clear hsz1
  refine wp_region_noPanic ?_
  refine wp_region_held_drew (S := (fun w' => Blk w' w.heap.size 24 #[.int .i64 h, .slice A n k, .int .i64 f, .int .i64 m, .int .i64 t, .int .i64 a, .int .i64 r])) (by kernel_rfl) ?_ (fun hHeld => ?_)
  · exact hb1.drew
  (refine take_on 0 (some 5) (v := ?_) rfl rfl (by kernel_rfl) (by kernel_rfl) (by kernel_rfl) (fun _ _ _ h => h) (by rfl) (by assumption) ?_ ?_; rotate_left; · (intro w hSw; (try dsimp only at hSw); obtain ⟨c0_, c1_, c2_, c3_, c4_, c5_, c6_⟩ := cfc7 hSw; go_simp; (try with_reducible rfl)))
  (try simp only [Act.put, List.setIfInBounds_toArray, List.set_cons_zero, List.set_cons_succ])
  (refine take_on 1 (some 6) (v := ?_) rfl rfl (by kernel_rfl) (by kernel_rfl) (by kernel_rfl) (fun _ _ _ h => h) (by rfl) (by assumption) ?_ ?_; rotate_left; · (intro w hSw; (try dsimp only at hSw); obtain ⟨c0_, c1_, c2_, c3_, c4_, c5_, c6_⟩ := cfc7 hSw; go_simp; (try with_reducible rfl)))
  (try simp only [Act.put, List.setIfInBounds_toArray, List.set_cons_zero, List.set_cons_succ])
  (refine take_on 2 (some 7) (v := ?_) rfl rfl (by kernel_rfl) (by kernel_rfl) (by kernel_rfl) (fun _ _ _ h => h) (by rfl) (by assumption) ?_ ?_; rotate_left; · (intro w hSw; (try dsimp only at hSw); obtain ⟨c0_, c1_, c2_, c3_, c4_, c5_, c6_⟩ := cfc7 hSw; go_simp; (try with_reducible rfl)))
  (try simp only [Act.put, List.setIfInBounds_toArray, List.set_cons_zero, List.set_cons_succ])
  (refine take_on 3 (some 8) (v := ?_) rfl rfl (by kernel_rfl) (by kernel_rfl) (by kernel_rfl) (fun _ _ _ h => h) (by rfl) (by assumption) ?_ ?_; rotate_left; · (intro w hSw; (try dsimp only at hSw); obtain ⟨c0_, c1_, c2_, c3_, c4_, c5_, c6_⟩ := cfc7 hSw; go_simp; (try with_reducible rfl)))
  (try simp only [Act.put, List.setIfInBounds_toArray, List.set_cons_zero, List.set_cons_succ])
  (refine take_on 5 (some 10) (v := ?_) rfl rfl (by kernel_rfl) (by kernel_rfl) (by kernel_rfl) (fun _ _ _ h => h) (by rfl) (by assumption) ?_ ?_; rotate_left; · (intro w hSw; (try dsimp only at hSw); obtain ⟨c0_, c1_, c2_, c3_, c4_, c5_, c6_⟩ := cfc7 hSw; go_simp; (try with_reducible rfl)))
  (try simp only [Act.put, List.setIfInBounds_toArray, List.set_cons_zero, List.set_cons_succ])
  (refine take_on 6 (some 11) (v := ?_) rfl rfl (by kernel_rfl) (by kernel_rfl) (by kernel_rfl) (fun _ _ _ h => h) (by rfl) (by assumption) ?_ ?_; rotate_left; · (intro w hSw; (try dsimp only at hSw); obtain ⟨c0_, c1_, c2_, c3_, c4_, c5_, c6_⟩ := cfc7 hSw; go_simp; (try with_reducible rfl)))
  (try simp only [Act.put, List.setIfInBounds_toArray, List.set_cons_zero, List.set_cons_succ])
  (refine take_on 7 (some 12) (v := ?_) rfl rfl (by kernel_rfl) (by kernel_rfl) (by kernel_rfl) (fun _ _ _ h => h) (by rfl) (by assumption) ?_ ?_; rotate_left; · (intro w hSw; (try dsimp only at hSw); obtain ⟨c0_, c1_, c2_, c3_, c4_, c5_, c6_⟩ := cfc7 hSw; go_simp; (try with_reducible rfl)))
  (try simp only [Act.put, List.setIfInBounds_toArray, List.set_cons_zero, List.set_cons_succ])
  (refine take_on 8 (some 13) (v := ?_) rfl rfl (by kernel_rfl) (by kernel_rfl) (by kernel_rfl) (fun _ _ _ h => h) (by rfl) (by assumption) ?_ ?_; rotate_left; · (intro w hSw; (try dsimp only at hSw); obtain ⟨c0_, c1_, c2_, c3_, c4_, c5_, c6_⟩ := cfc7 hSw; go_simp; (try with_reducible rfl)))
  (try simp only [Act.put, List.setIfInBounds_toArray, List.set_cons_zero, List.set_cons_succ])
  refine wpAnyH_ready (rs := [4, 11]) (by kernel_rfl) (by simp) ?_; refine AllReadyH.cons (o := _) rfl (fun K hK => ?_) (AllReadyH.cons (o := _) rfl (fun K hK => ?_) AllReadyH.nil)
  · go_simp
    (go_at_call 24; refine (hG _ ((Chg.refl [] w).trans hc1 (by simp) |>.drew)).mono ?_; rintro e u1 ⟨xi, rfl, y1, i1⟩)
    refine hK.out _ _ (by (try dsimp only); exact hHeld.chg_ y1 (by simp)) (fun hHeld => ?_)
    clear hK K
    (try simp only [Act.put, List.setIfInBounds_toArray, List.set_cons_zero, List.set_cons_succ])
    refine wpAnyH_ready (rs := [9, 11]) (by kernel_rfl) (by simp) ?_; refine AllReadyH.cons (o := _) rfl (fun K hK => ?_) (AllReadyH.cons (o := _) rfl (fun K hK => ?_) AllReadyH.nil)
    · go_simp
      (go_at_call 25; refine (hF _).mono ?_; rintro e u2 ⟨xp, rfl, y2, i2⟩)
      refine hK.out _ _ (by (try dsimp only); exact hHeld.chg_ y2 (by simp)) (fun hHeld => ?_)
      clear hK K
      (try simp only [Act.put, List.setIfInBounds_toArray, List.set_cons_zero, List.set_cons_succ])
      (refine take_on 10 (some 15) (v := ?_) rfl rfl (by kernel_rfl) (by kernel_rfl) (by kernel_rfl) (fun _ _ _ h => h) (by rfl) (by assumption) ?_ ?_; rotate_left; · (intro w hSw; (try dsimp only at hSw); go_simp; (try with_reducible rfl)))
      (try simp only [Act.put, List.setIfInBounds_toArray, List.set_cons_zero, List.set_cons_succ])
      refine wpAnyH_ready (rs := [11]) (by kernel_rfl) (by simp) ?_; refine AllReadyH.cons (o := _) rfl (fun K hK => ?_) AllReadyH.nil
      go_simp
      skip
      refine hK.out _ _ (by (try dsimp only); exact Blk.alloc hHeld _) (fun hHeld => ?_)
      clear hK K
      (try simp only [Act.put, List.setIfInBounds_toArray, List.set_cons_zero, List.set_cons_succ])
      have x0 : Chg [] w1 (u2.alloc (.cells #[.pointer none, .pointer none] 34)) := ((((Chg.refl [] w1).drew).trans y1 (by simp)).trans y2 (by simp)).alloc _
      have hb0 : Blk (u2.alloc (.cells #[.pointer none, .pointer none] 34)) u2.heap.size 34 #[.pointer none, .pointer none] := Blk.new u2 _ _
      have hi0 : ImgP L h xi (u2.alloc (.cells #[.pointer none, .pointer none] 34)) := i1.new (y2.alloc _)
      have hp0 : PooP f m xp (u2.alloc (.cells #[.pointer none, .pointer none] 34)) := i2.new ((Chg.refl [] u2).alloc _)
      have hg0 : w1.heap.size ≤ u2.heap.size := by have := y1.size; have := y2.size; simp at *; omega
      clear i1 i2
      generalize hgg : u2.heap.size = g at *
      generalize hww : u2.alloc (.cells #[.pointer none, .pointer none] 34) = w2 at *
      clear hww
      have hg0 : w.heap.size + 2 ≤ g := by have := HSZ1.out; omega
      clear y1 y2
      obtain ⟨z0, z1⟩ := blkc2 hb0
      have gf0 := hb0.frozen 0
      have gf1 := hb0.frozen 1
      refine wpAnyH_ready (rs := [12]) (by kernel_rfl) (by simp) ?_; refine AllReadyH.cons (o := _) rfl (fun K hK => ?_) AllReadyH.nil
      go_simp
      skip
      refine hK.out _ _ (by (try dsimp only); exact Blk.far (p := ⟨g, 1, none⟩) (Blk.far (p := ⟨g, 0, none⟩) hHeld (by show w.heap.size ≠ g; omega) _) (by show w.heap.size ≠ g; omega) _) (fun hHeld => ?_)
      clear hK K
      (try simp only [Act.put, List.setIfInBounds_toArray, List.set_cons_zero, List.set_cons_succ])
      refine wpAnyH_done (by kernel_rfl) ?_ _
      refine NoPanic.normal ?_
      have hb3 := set2 (.pointer xi) (.pointer xp) hb0
      have k3 := chg2 (g := g) (.pointer xi) (.pointer xp) (Chg.refl [g] w2) (by simp)
      have hi3 := hi0.chgM hb0 k3
      have hp3 := hp0.chgM hb0 k3
      have hc3 := (hc1.trans x0 (by simp)).trans k3 (by intro i hi hm; simp at hm; omega)
      have hr3 := ((hb2.chg_ x0 (by simp)).chg_ k3 (by simp; omega))
      have ha3 := ((hb1.chg_ x0 (by simp)).chg_ k3 (by simp; omega))
      generalize (w2.setCell ⟨g, 0, none⟩ (.pointer xi)).setCell ⟨g, 1, none⟩ (.pointer xp) = w3 at *
      clear z0 z1 gf0 gf1 hHeld hb0 x0 hi0 hp0 k3 hb1 hb2 hc1 hG hF
      obtain ⟨c0, c1, c2, c3, c4, c5, c6⟩ := cfc7 ha3
      obtain ⟨m0, m1⟩ := blkc2 hb3
      obtain ⟨r0, r1⟩ := blkc2 hr3
      have rf0 := hr3.frozen 0
      have rf1 := hr3.frozen 1
      rcases hi3 with ⟨rfl, hn⟩ | ⟨p, rfl, hgw, hok⟩
      · clear hp3 hC hZ
        go_wp2_with fail
        refine bodyPost_ret (cf_ret2 rfl (set2 (.pointer none) (.pointer none) hr3) rfl rfl Try.underlying34 rfl (by kernel_rfl)) rfl ?_
        exact hno rfl (chg2 _ _ hc3 (by intro hh; omega)) (fun hO => hn (hE1.out hO).map)
      · rcases hp3 with ⟨rfl, hn⟩ | ⟨q, rfl, hfw, hpk⟩
        · clear hC hZ
          go_wp2_with fail
          refine bodyPost_ret (cf_ret2 rfl (set2 (.pointer none) (.pointer none) hr3) rfl rfl Try.underlying34 rfl (by kernel_rfl)) rfl ?_
          exact hno rfl (chg2 _ _ hc3 (by intro hh; omega)) (fun hO => hn (hE1.out hO).pool)
        · cases sz with
          | false =>
            go_wp2_with fail
            refine (hZ _).mono ?_; rintro e w4 ⟨rfl, y4⟩
            have hr4 := hr3.chg_ y4 (by simp)
            have hc4 := hc3.trans y4 (by simp)
            have rg0 := hr4.frozen 0
            have rg1 := hr4.frozen 1
            obtain ⟨s0, s1⟩ := blkc2 hr4
            clear hC hZ
            go_wp2_with fail
            refine bodyPost_ret (cf_ret2 rfl (set2 (.pointer none) (.pointer none) hr4) rfl rfl Try.underlying34 rfl (by kernel_rfl)) rfl ?_
            exact hno rfl (chg2 _ _ hc4 (by intro hh; omega)) (fun hO => by have := (hE1.out hO).sz; rw [HSZ.out] at this; cases this)
          | true =>
            go_wp2_with fail
            refine (hZ _).mono ?_; rintro e w4 ⟨rfl, y4⟩
            have hr4 := hr3.chg_ y4 (by simp)
            have hc4 := hc3.trans y4 (by simp)
            have ha4 := ha3.chg_ y4 (by simp)
            have hb4 := hb3.chg_ y4 (by simp)
            replace hgw := hgw.new y4
            replace hfw := hfw.new y4
            clear c0 c1 c2 c3 c4 c5 c6 m0 m1 r0 r1 rf0 rf1 ha3 hb3 hr3 hc3 y4
            obtain ⟨c0, c1, c2, c3, c4, c5, c6⟩ := cfc7 ha4
            obtain ⟨m0, m1⟩ := blkc2 hb4
            obtain ⟨r0, r1⟩ := blkc2 hr4
            have rf0 := hr4.frozen 0
            have rf1 := hr4.frozen 1
            have hC4 := hC w4 hc4 q hfw
            clear hC hZ
            have hwr : wrap64 (f + m) = f + m := by unfold wrap64; omega
            have HOK := Lib.hid hok
            have HPK := Lib.hid hpk
            clear hok hpk
            by_cases hrm : f + m > h
            · have hrd : decide (f + m > h) = true := by simpa using hrm
              go_wp2_with fail
              refine bodyPost_ret (cf_ret2 rfl (set2 (.pointer none) (.pointer none) hr4) rfl rfl Try.underlying34 rfl (by kernel_rfl)) rfl ?_
              exact hno rfl (chg2 _ _ hc4 (by intro hh; omega)) (fun hO => by have := (hE1.out hO).room; (try simp only at this); omega)
            · have hrd : decide (f + m > h) = false := by simpa using hrm
              cases ct with
              | true =>
                go_wp2_with fail
                refine hC4.mono ?_; rintro e w5 ⟨rfl, y5⟩
                have hr5 := hr4.chg_ y5 (by simp)
                have hc5 := hc4.trans y5 (by simp)
                have rg0 := hr5.frozen 0
                have rg1 := hr5.frozen 1
                obtain ⟨s0, s1⟩ := blkc2 hr5
                go_wp2_with fail
                refine bodyPost_ret (cf_ret2 rfl (set2 (.pointer none) (.pointer none) hr5) rfl rfl Try.underlying34 rfl (by kernel_rfl)) rfl ?_
                exact hno rfl (chg2 _ _ hc5 (by intro hh; omega)) (fun hO => by have := (hE1.out hO).apart; (try simp only at this); rw [HCT.out] at this; cases this)
              | false =>
                go_wp2_with fail
                refine hC4.mono ?_; rintro e w5 ⟨rfl, y5⟩
                have hr5 := hr4.chg_ y5 (by simp)
                have hc5 := hc4.trans y5 (by simp)
                have rg0 := hr5.frozen 0
                have rg1 := hr5.frozen 1
                obtain ⟨s0, s1⟩ := blkc2 hr5
                obtain ⟨n0, n1⟩ := blkc2 (hb4.chg_ y5 (by simp))
                replace hgw := hgw.new y5
                replace hfw := hfw.new y5
                go_wp2_with fail
                have k6 := chg2 (g := w.heap.size + 1) (.pointer (some ⟨p, 0, none⟩)) (.pointer (some ⟨q, 0, none⟩)) (Chg.refl [w.heap.size + 1] w5) (by simp)
                refine bodyPost_ret (cf_ret2 rfl (set2 (.pointer (some ⟨p, 0, none⟩)) (.pointer (some ⟨q, 0, none⟩)) hr5) rfl rfl Try.underlying34 rfl (by kernel_rfl)) rfl ?_
                exact hyes rfl (chg2 _ _ hc5 (by intro hh; omega)) (hgw.chgM hr5 k6) (hfw.chgM hr5 k6) (hE.out ⟨HOK.out, HPK.out, HSZ.out, by (try simp only); omega, HCT.out⟩)
    · go_simp
      skip
      refine hK.out _ _ (by (try dsimp only); exact Blk.alloc hHeld _) (fun hHeld => ?_)
      clear hK K
      (try simp only [Act.put, List.setIfInBounds_toArray, List.set_cons_zero, List.set_cons_succ])
      have hB : Blk (u1.alloc (.cells #[.pointer none, .pointer none] 34)) u1.heap.size 34 #[.pointer none, .pointer none] := Blk.new u1 _ _
      refine wpAnyH_ready (rs := [9]) (by kernel_rfl) (by simp) ?_; refine AllReadyH.cons (o := _) rfl (fun K hK => ?_) AllReadyH.nil
      go_simp
      (go_at_call 25; refine (hF _).mono ?_; rintro e u2 ⟨xp, rfl, y2, i2⟩)
      refine hK.out _ _ (by (try dsimp only); exact hHeld.chg_ y2 (by simp)) (fun hHeld => ?_)
      clear hK K
      (try simp only [Act.put, List.setIfInBounds_toArray, List.set_cons_zero, List.set_cons_succ])
      have x0 : Chg [] w1 u2 := ((((Chg.refl [] w1).drew).trans y1 (by simp)).alloc _).trans y2 (by simp)
      have hb0 : Blk u2 u1.heap.size 34 #[.pointer none, .pointer none] := hB.chg_ y2 (by simp)
      have hi0 : ImgP L h xi u2 := (i1.new ((Chg.refl [] u1).alloc _)).new y2
      have hp0 : PooP f m xp u2 := i2
      have hg0 : w1.heap.size ≤ u1.heap.size := by have := y1.size; have := y2.size; simp at *; omega
      clear i1 i2 hB
      generalize hgg : u1.heap.size = g at *
      generalize hww : u2 = w2 at *
      clear hww
      have hg0 : w.heap.size + 2 ≤ g := by have := HSZ1.out; omega
      clear y1 y2
      obtain ⟨z0, z1⟩ := blkc2 hb0
      have gf0 := hb0.frozen 0
      have gf1 := hb0.frozen 1
      (refine take_on 10 (some 15) (v := ?_) rfl rfl (by kernel_rfl) (by kernel_rfl) (by kernel_rfl) (fun _ _ _ h => h) (by rfl) (by assumption) ?_ ?_; rotate_left; · (intro w hSw; (try dsimp only at hSw); go_simp; (try with_reducible rfl)))
      (try simp only [Act.put, List.setIfInBounds_toArray, List.set_cons_zero, List.set_cons_succ])
      refine wpAnyH_ready (rs := [12]) (by kernel_rfl) (by simp) ?_; refine AllReadyH.cons (o := _) rfl (fun K hK => ?_) AllReadyH.nil
      go_simp
      skip
      refine hK.out _ _ (by (try dsimp only); exact Blk.far (p := ⟨g, 1, none⟩) (Blk.far (p := ⟨g, 0, none⟩) hHeld (by show w.heap.size ≠ g; omega) _) (by show w.heap.size ≠ g; omega) _) (fun hHeld => ?_)
      clear hK K
      (try simp only [Act.put, List.setIfInBounds_toArray, List.set_cons_zero, List.set_cons_succ])
      refine wpAnyH_done (by kernel_rfl) ?_ _
      refine NoPanic.normal ?_
      have hb3 := set2 (.pointer xi) (.pointer xp) hb0
      have k3 := chg2 (g := g) (.pointer xi) (.pointer xp) (Chg.refl [g] w2) (by simp)
      have hi3 := hi0.chgM hb0 k3
      have hp3 := hp0.chgM hb0 k3
      have hc3 := (hc1.trans x0 (by simp)).trans k3 (by intro i hi hm; simp at hm; omega)
      have hr3 := ((hb2.chg_ x0 (by simp)).chg_ k3 (by simp; omega))
      have ha3 := ((hb1.chg_ x0 (by simp)).chg_ k3 (by simp; omega))
      generalize (w2.setCell ⟨g, 0, none⟩ (.pointer xi)).setCell ⟨g, 1, none⟩ (.pointer xp) = w3 at *
      clear z0 z1 gf0 gf1 hHeld hb0 x0 hi0 hp0 k3 hb1 hb2 hc1 hG hF
      obtain ⟨c0, c1, c2, c3, c4, c5, c6⟩ := cfc7 ha3
      obtain ⟨m0, m1⟩ := blkc2 hb3
      obtain ⟨r0, r1⟩ := blkc2 hr3
      have rf0 := hr3.frozen 0
      have rf1 := hr3.frozen 1
      rcases hi3 with ⟨rfl, hn⟩ | ⟨p, rfl, hgw, hok⟩
      · clear hp3 hC hZ
        go_wp2_with fail
        refine bodyPost_ret (cf_ret2 rfl (set2 (.pointer none) (.pointer none) hr3) rfl rfl Try.underlying34 rfl (by kernel_rfl)) rfl ?_
        exact hno rfl (chg2 _ _ hc3 (by intro hh; omega)) (fun hO => hn (hE1.out hO).map)
      · rcases hp3 with ⟨rfl, hn⟩ | ⟨q, rfl, hfw, hpk⟩
        · clear hC hZ
          go_wp2_with fail
          refine bodyPost_ret (cf_ret2 rfl (set2 (.pointer none) (.pointer none) hr3) rfl rfl Try.underlying34 rfl (by kernel_rfl)) rfl ?_
          exact hno rfl (chg2 _ _ hc3 (by intro hh; omega)) (fun hO => hn (hE1.out hO).pool)
        · cases sz with
          | false =>
            go_wp2_with fail
            refine (hZ _).mono ?_; rintro e w4 ⟨rfl, y4⟩
            have hr4 := hr3.chg_ y4 (by simp)
            have hc4 := hc3.trans y4 (by simp)
            have rg0 := hr4.frozen 0
            have rg1 := hr4.frozen 1
            obtain ⟨s0, s1⟩ := blkc2 hr4
            clear hC hZ
            go_wp2_with fail
            refine bodyPost_ret (cf_ret2 rfl (set2 (.pointer none) (.pointer none) hr4) rfl rfl Try.underlying34 rfl (by kernel_rfl)) rfl ?_
            exact hno rfl (chg2 _ _ hc4 (by intro hh; omega)) (fun hO => by have := (hE1.out hO).sz; rw [HSZ.out] at this; cases this)
          | true =>
            go_wp2_with fail
            refine (hZ _).mono ?_; rintro e w4 ⟨rfl, y4⟩
            have hr4 := hr3.chg_ y4 (by simp)
            have hc4 := hc3.trans y4 (by simp)
            have ha4 := ha3.chg_ y4 (by simp)
            have hb4 := hb3.chg_ y4 (by simp)
            replace hgw := hgw.new y4
            replace hfw := hfw.new y4
            clear c0 c1 c2 c3 c4 c5 c6 m0 m1 r0 r1 rf0 rf1 ha3 hb3 hr3 hc3 y4
            obtain ⟨c0, c1, c2, c3, c4, c5, c6⟩ := cfc7 ha4
            obtain ⟨m0, m1⟩ := blkc2 hb4
            obtain ⟨r0, r1⟩ := blkc2 hr4
            have rf0 := hr4.frozen 0
            have rf1 := hr4.frozen 1
            have hC4 := hC w4 hc4 q hfw
            clear hC hZ
            have hwr : wrap64 (f + m) = f + m := by unfold wrap64; omega
            have HOK := Lib.hid hok
            have HPK := Lib.hid hpk
            clear hok hpk
            by_cases hrm : f + m > h
            · have hrd : decide (f + m > h) = true := by simpa using hrm
              go_wp2_with fail
              refine bodyPost_ret (cf_ret2 rfl (set2 (.pointer none) (.pointer none) hr4) rfl rfl Try.underlying34 rfl (by kernel_rfl)) rfl ?_
              exact hno rfl (chg2 _ _ hc4 (by intro hh; omega)) (fun hO => by have := (hE1.out hO).room; (try simp only at this); omega)
            · have hrd : decide (f + m > h) = false := by simpa using hrm
              cases ct with
              | true =>
                go_wp2_with fail
                refine hC4.mono ?_; rintro e w5 ⟨rfl, y5⟩
                have hr5 := hr4.chg_ y5 (by simp)
                have hc5 := hc4.trans y5 (by simp)
                have rg0 := hr5.frozen 0
                have rg1 := hr5.frozen 1
                obtain ⟨s0, s1⟩ := blkc2 hr5
                go_wp2_with fail
                refine bodyPost_ret (cf_ret2 rfl (set2 (.pointer none) (.pointer none) hr5) rfl rfl Try.underlying34 rfl (by kernel_rfl)) rfl ?_
                exact hno rfl (chg2 _ _ hc5 (by intro hh; omega)) (fun hO => by have := (hE1.out hO).apart; (try simp only at this); rw [HCT.out] at this; cases this)
              | false =>
                go_wp2_with fail
                refine hC4.mono ?_; rintro e w5 ⟨rfl, y5⟩
                have hr5 := hr4.chg_ y5 (by simp)
                have hc5 := hc4.trans y5 (by simp)
                have rg0 := hr5.frozen 0
                have rg1 := hr5.frozen 1
                obtain ⟨s0, s1⟩ := blkc2 hr5
                obtain ⟨n0, n1⟩ := blkc2 (hb4.chg_ y5 (by simp))
                replace hgw := hgw.new y5
                replace hfw := hfw.new y5
                go_wp2_with fail
                have k6 := chg2 (g := w.heap.size + 1) (.pointer (some ⟨p, 0, none⟩)) (.pointer (some ⟨q, 0, none⟩)) (Chg.refl [w.heap.size + 1] w5) (by simp)
                refine bodyPost_ret (cf_ret2 rfl (set2 (.pointer (some ⟨p, 0, none⟩)) (.pointer (some ⟨q, 0, none⟩)) hr5) rfl rfl Try.underlying34 rfl (by kernel_rfl)) rfl ?_
                exact hyes rfl (chg2 _ _ hc5 (by intro hh; omega)) (hgw.chgM hr5 k6) (hfw.chgM hr5 k6) (hE.out ⟨HOK.out, HPK.out, HSZ.out, by (try simp only); omega, HCT.out⟩)
  · go_simp
    skip
    refine hK.out _ _ (by (try dsimp only); exact Blk.alloc hHeld _) (fun hHeld => ?_)
    clear hK K
    (try simp only [Act.put, List.setIfInBounds_toArray, List.set_cons_zero, List.set_cons_succ])
    have hB : Blk (w1.drew.alloc (.cells #[.pointer none, .pointer none] 34)) w1.heap.size 34 #[.pointer none, .pointer none] := Blk.new w1.drew _ _
    refine wpAnyH_ready (rs := [4]) (by kernel_rfl) (by simp) ?_; refine AllReadyH.cons (o := _) rfl (fun K hK => ?_) AllReadyH.nil
    go_simp
    (go_at_call 24; refine (hG _ ((Chg.refl [] w).trans hc1 (by simp) |>.drew |>.alloc _)).mono ?_; rintro e u1 ⟨xi, rfl, y1, i1⟩)
    refine hK.out _ _ (by (try dsimp only); exact hHeld.chg_ y1 (by simp)) (fun hHeld => ?_)
    clear hK K
    (try simp only [Act.put, List.setIfInBounds_toArray, List.set_cons_zero, List.set_cons_succ])
    refine wpAnyH_ready (rs := [9]) (by kernel_rfl) (by simp) ?_; refine AllReadyH.cons (o := _) rfl (fun K hK => ?_) AllReadyH.nil
    go_simp
    (go_at_call 25; refine (hF _).mono ?_; rintro e u2 ⟨xp, rfl, y2, i2⟩)
    refine hK.out _ _ (by (try dsimp only); exact hHeld.chg_ y2 (by simp)) (fun hHeld => ?_)
    clear hK K
    (try simp only [Act.put, List.setIfInBounds_toArray, List.set_cons_zero, List.set_cons_succ])
    have x0 : Chg [] w1 u2 := ((((Chg.refl [] w1).drew).alloc _).trans y1 (by simp)).trans y2 (by simp)
    have hb0 : Blk u2 w1.heap.size 34 #[.pointer none, .pointer none] := (hB.chg_ y1 (by simp)).chg_ y2 (by simp)
    have hi0 : ImgP L h xi u2 := i1.new y2
    have hp0 : PooP f m xp u2 := i2
    have hg0 : w1.heap.size ≤ w1.heap.size := by omega
    clear i1 i2 hB y1 y2
    generalize hgg : w1.heap.size = g at *
    generalize hww : u2 = w2 at *
    clear hww
    have hg0 : w.heap.size + 2 ≤ g := by have := HSZ1.out; omega
    obtain ⟨z0, z1⟩ := blkc2 hb0
    have gf0 := hb0.frozen 0
    have gf1 := hb0.frozen 1
    (refine take_on 10 (some 15) (v := ?_) rfl rfl (by kernel_rfl) (by kernel_rfl) (by kernel_rfl) (fun _ _ _ h => h) (by rfl) (by assumption) ?_ ?_; rotate_left; · (intro w hSw; (try dsimp only at hSw); go_simp; (try with_reducible rfl)))
    (try simp only [Act.put, List.setIfInBounds_toArray, List.set_cons_zero, List.set_cons_succ])
    refine wpAnyH_ready (rs := [12]) (by kernel_rfl) (by simp) ?_; refine AllReadyH.cons (o := _) rfl (fun K hK => ?_) AllReadyH.nil
    go_simp
    skip
    refine hK.out _ _ (by (try dsimp only); exact Blk.far (p := ⟨g, 1, none⟩) (Blk.far (p := ⟨g, 0, none⟩) hHeld (by show w.heap.size ≠ g; omega) _) (by show w.heap.size ≠ g; omega) _) (fun hHeld => ?_)
    clear hK K
    (try simp only [Act.put, List.setIfInBounds_toArray, List.set_cons_zero, List.set_cons_succ])
    refine wpAnyH_done (by kernel_rfl) ?_ _
    refine NoPanic.normal ?_
    have hb3 := set2 (.pointer xi) (.pointer xp) hb0
    have k3 := chg2 (g := g) (.pointer xi) (.pointer xp) (Chg.refl [g] w2) (by simp)
    have hi3 := hi0.chgM hb0 k3
    have hp3 := hp0.chgM hb0 k3
    have hc3 := (hc1.trans x0 (by simp)).trans k3 (by intro i hi hm; simp at hm; omega)
    have hr3 := ((hb2.chg_ x0 (by simp)).chg_ k3 (by simp; omega))
    have ha3 := ((hb1.chg_ x0 (by simp)).chg_ k3 (by simp; omega))
    generalize (w2.setCell ⟨g, 0, none⟩ (.pointer xi)).setCell ⟨g, 1, none⟩ (.pointer xp) = w3 at *
    clear z0 z1 gf0 gf1 hHeld hb0 x0 hi0 hp0 k3 hb1 hb2 hc1 hG hF
    obtain ⟨c0, c1, c2, c3, c4, c5, c6⟩ := cfc7 ha3
    obtain ⟨m0, m1⟩ := blkc2 hb3
    obtain ⟨r0, r1⟩ := blkc2 hr3
    have rf0 := hr3.frozen 0
    have rf1 := hr3.frozen 1
    rcases hi3 with ⟨rfl, hn⟩ | ⟨p, rfl, hgw, hok⟩
    · clear hp3 hC hZ
      go_wp2_with fail
      refine bodyPost_ret (cf_ret2 rfl (set2 (.pointer none) (.pointer none) hr3) rfl rfl Try.underlying34 rfl (by kernel_rfl)) rfl ?_
      exact hno rfl (chg2 _ _ hc3 (by intro hh; omega)) (fun hO => hn (hE1.out hO).map)
    · rcases hp3 with ⟨rfl, hn⟩ | ⟨q, rfl, hfw, hpk⟩
      · clear hC hZ
        go_wp2_with fail
        refine bodyPost_ret (cf_ret2 rfl (set2 (.pointer none) (.pointer none) hr3) rfl rfl Try.underlying34 rfl (by kernel_rfl)) rfl ?_
        exact hno rfl (chg2 _ _ hc3 (by intro hh; omega)) (fun hO => hn (hE1.out hO).pool)
      · cases sz with
        | false =>
          go_wp2_with fail
          refine (hZ _).mono ?_; rintro e w4 ⟨rfl, y4⟩
          have hr4 := hr3.chg_ y4 (by simp)
          have hc4 := hc3.trans y4 (by simp)
          have rg0 := hr4.frozen 0
          have rg1 := hr4.frozen 1
          obtain ⟨s0, s1⟩ := blkc2 hr4
          clear hC hZ
          go_wp2_with fail
          refine bodyPost_ret (cf_ret2 rfl (set2 (.pointer none) (.pointer none) hr4) rfl rfl Try.underlying34 rfl (by kernel_rfl)) rfl ?_
          exact hno rfl (chg2 _ _ hc4 (by intro hh; omega)) (fun hO => by have := (hE1.out hO).sz; rw [HSZ.out] at this; cases this)
        | true =>
          go_wp2_with fail
          refine (hZ _).mono ?_; rintro e w4 ⟨rfl, y4⟩
          have hr4 := hr3.chg_ y4 (by simp)
          have hc4 := hc3.trans y4 (by simp)
          have ha4 := ha3.chg_ y4 (by simp)
          have hb4 := hb3.chg_ y4 (by simp)
          replace hgw := hgw.new y4
          replace hfw := hfw.new y4
          clear c0 c1 c2 c3 c4 c5 c6 m0 m1 r0 r1 rf0 rf1 ha3 hb3 hr3 hc3 y4
          obtain ⟨c0, c1, c2, c3, c4, c5, c6⟩ := cfc7 ha4
          obtain ⟨m0, m1⟩ := blkc2 hb4
          obtain ⟨r0, r1⟩ := blkc2 hr4
          have rf0 := hr4.frozen 0
          have rf1 := hr4.frozen 1
          have hC4 := hC w4 hc4 q hfw
          clear hC hZ
          have hwr : wrap64 (f + m) = f + m := by unfold wrap64; omega
          have HOK := Lib.hid hok
          have HPK := Lib.hid hpk
          clear hok hpk
          by_cases hrm : f + m > h
          · have hrd : decide (f + m > h) = true := by simpa using hrm
            go_wp2_with fail
            refine bodyPost_ret (cf_ret2 rfl (set2 (.pointer none) (.pointer none) hr4) rfl rfl Try.underlying34 rfl (by kernel_rfl)) rfl ?_
            exact hno rfl (chg2 _ _ hc4 (by intro hh; omega)) (fun hO => by have := (hE1.out hO).room; (try simp only at this); omega)
          · have hrd : decide (f + m > h) = false := by simpa using hrm
            cases ct with
            | true =>
              go_wp2_with fail
              refine hC4.mono ?_; rintro e w5 ⟨rfl, y5⟩
              have hr5 := hr4.chg_ y5 (by simp)
              have hc5 := hc4.trans y5 (by simp)
              have rg0 := hr5.frozen 0
              have rg1 := hr5.frozen 1
              obtain ⟨s0, s1⟩ := blkc2 hr5
              go_wp2_with fail
              refine bodyPost_ret (cf_ret2 rfl (set2 (.pointer none) (.pointer none) hr5) rfl rfl Try.underlying34 rfl (by kernel_rfl)) rfl ?_
              exact hno rfl (chg2 _ _ hc5 (by intro hh; omega)) (fun hO => by have := (hE1.out hO).apart; (try simp only at this); rw [HCT.out] at this; cases this)
            | false =>
              go_wp2_with fail
              refine hC4.mono ?_; rintro e w5 ⟨rfl, y5⟩
              have hr5 := hr4.chg_ y5 (by simp)
              have hc5 := hc4.trans y5 (by simp)
              have rg0 := hr5.frozen 0
              have rg1 := hr5.frozen 1
              obtain ⟨s0, s1⟩ := blkc2 hr5
              obtain ⟨n0, n1⟩ := blkc2 (hb4.chg_ y5 (by simp))
              replace hgw := hgw.new y5
              replace hfw := hfw.new y5
              go_wp2_with fail
              have k6 := chg2 (g := w.heap.size + 1) (.pointer (some ⟨p, 0, none⟩)) (.pointer (some ⟨q, 0, none⟩)) (Chg.refl [w.heap.size + 1] w5) (by simp)
              refine bodyPost_ret (cf_ret2 rfl (set2 (.pointer (some ⟨p, 0, none⟩)) (.pointer (some ⟨q, 0, none⟩)) hr5) rfl rfl Try.underlying34 rfl (by kernel_rfl)) rfl ?_
              exact hyes rfl (chg2 _ _ hc5 (by intro hh; omega)) (hgw.chgM hr5 k6) (hfw.chgM hr5 k6) (hE.out ⟨HOK.out, HPK.out, HSZ.out, by (try simp only); omega, HCT.out⟩)

end Go.Proofs.Ytkggkdjhecagnaa
