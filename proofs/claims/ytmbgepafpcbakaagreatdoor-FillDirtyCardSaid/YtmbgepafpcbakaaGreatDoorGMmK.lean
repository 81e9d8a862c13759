/-
 MmuA, MmuR0, MmuE, MmuW in one text.
-/
import Derived.Test.YtmbgepafpcbakaaGreatDoorGPlK
import Derived.Test.YtmbgepafpcbakaaGreatDoorWdWK
import Derived.Test.YtmbgepafpcbakaaGreatDoorSepGK
import Derived.Test.YtmbgepafpcbakaaGreatDoorLateK
import Derived.Test.YtmbgepafpcbakaaGreatDoorHostK
import Derived.BigQuiet
import Derived.Deep.CutRange
import Derived.WalkMore
import Derived.ScopeJumps
namespace Go.Proofs.YtmbgepafpcbakaaGreatDoor
open Go.RowKit
def walkK (n : Nat) (W : List Int) (root page : Int) : Nat → Option (Int × Rg)
 | 0 => some (root, Rg.all)
 | k + 1 => (walkK n W root page k).bind fun x => (rdH n W x.1 (idxI page (3 - k))).map fun e => (e.f, x.2.and (ofE e))
theorem walkK_3 (n : Nat) (W : List Int) (root page : Int) : walkK n W root page 3 = walkH n W root page := by
 unfold walkH
 simp only [walkK, Option.bind_some, show (3 : Int) - ((0 : Nat) : Int) = 3 from rfl, show (3 : Int) - ((1 : Nat) : Int) = 2 from rfl, show (3 : Int) - ((2 : Nat) : Int) = 1 from rfl]
 cases rdH n W root (idxI page 3) with
 | none => rfl
 | some e3 =>
  simp only [Option.map_some, Option.bind_some]
  cases rdH n W e3.f (idxI page 2) with
  | none => rfl
  | some e2 => simp only [Option.map_some, Option.bind_some]
theorem walkK_stop {n : Nat} {W : List Int} {root page f : Int} {r : Rg} {k : Nat} (hk : k < 3) (h : walkK n W root page k = some (f, r)) (hr : rdH n W f (idxI page (3 - k)) = none) : walkH n W root page = none := by
 have h1 : walkK n W root page (k + 1) = none := by rw [walkK, h, Option.bind_some, hr]; rfl
 have h2 : ∀ j, walkK n W root page (k + 1 + j) = none := fun j => by
  induction j with
  | zero => exact h1
  | succ j ih => rw [← Nat.add_assoc, walkK, ih]; rfl
 have := h2 (2 - k)
 rw [show k + 1 + (2 - k) = 3 by omega, walkK_3] at this
 exact this
theorem walkK_go {n : Nat} {W : List Int} {root page f : Int} {r : Rg} {k : Nat} {e : Ent} (h : walkK n W root page k = some (f, r)) (hr : rdH n W f (idxI page (3 - k)) = some e) : walkK n W root page (k + 1) = some (e.f, r.and (ofE e)) := by
 rw [walkK, h, Option.bind_some, hr]; rfl
def walkF (n : Nat) (W : List Int) (root page : Int) : Int := ((walkH n W root page).map Prod.fst).getD 0
def walkR (n : Nat) (W : List Int) (root page : Int) : Rg := ((walkH n W root page).map Prod.snd).getD ⟨false, false, false⟩
theorem walk_is {n : Nat} {W : List Int} {root page f : Int} {r : Rg} (h : walkH n W root page = some (f, r)) : walkF n W root page = f ∧ walkR n W root page = r ∧ (walkH n W root page).isSome = true := by
 unfold walkF walkR; rw [h]; exact ⟨rfl, rfl, rfl⟩
theorem walk_not {n : Nat} {W : List Int} {root page : Int} (h : walkH n W root page = none) : walkF n W root page = 0 ∧ walkR n W root page = ⟨false, false, false⟩ ∧ (walkH n W root page).isSome = false := by
 unfold walkF walkR; rw [h]; exact ⟨rfl, rfl, rfl⟩
theorem tct_ret {P : Program} {fn : Func} {r p q : Tmp} {ty : TypeId} (h : fn.results = #[.tmp r, .cell p ty, .tmp q]) {tmps : Array Value} {w : World} {g : Nat} {t : TypeId} {cs : Array Value} {d : TypeDesc} {u v : Value} (hb : Blk w g t cs)
  (hr : tmps.getD r undef = u) (hp : tmps.getD p undef = .pointer (some ⟨g, 0, none⟩)) (hq : tmps.getD q undef = v) (hu : P.underlying ty = some d) (hd : (match d with | .struct _ | .array _ _ => true | _ => false) = true) (hi : (P.info? ty).map (·.size) = some cs.size) :
  (results fn tmps).run P w = .ok (.tuple #[u, .agg cs, v]) w := by
 have hr' : tmps[r]?.getD undef = u := by simpa using hr
 have hp' : tmps[p]?.getD undef = .pointer (some ⟨g, 0, none⟩) := by simpa using hp
 have hq' : tmps[q]?.getD undef = v := by simpa using hq
 simp [results, h, hr', hp', hq', asAddr, run_loadVar_row w g t ty cs (0, 0) d hb hu hd hi]
theorem SepC.put3 {w0 w : World} {l : List Th} {g : Nat} {ty : TypeId} {a b c : Value} (H : SepC w0 w (blkT g ty #[a, b, c] :: l)) (x y z : Value) : SepC w0 (((w.setCell ⟨g, 0, none⟩ x).setCell ⟨g, 1, none⟩ y).setCell ⟨g, 2, none⟩ z) (blkT g ty #[x, y, z] :: l) := by
 have hb := H.blk
 refine H.step (S := [g]) (S' := [g]) (fun _ h => h.1) ((((Chg.refl [g] w).setCell (p := ⟨g, 0, none⟩) (by simp) x).setCell (p := ⟨g, 1, none⟩) (by simp) y).setCell (p := ⟨g, 2, none⟩) (by simp) z) ⟨rfl, ?_⟩ fun i hi => .inl hi
 have := ((hb.set_ 0 x).set_ 1 y).set_ 2 z
 simpa using this
theorem blk3f {w : World} {g : Nat} {t : TypeId} {a b c : Value} (h : Blk w g t #[a, b, c]) : (w.cell? ⟨g, 0, none⟩ = some a ∧ w.cell? ⟨g, 1, none⟩ = some b ∧ w.cell? ⟨g, 2, none⟩ = some c) ∧ w.frozen? ⟨g, 0, none⟩ = false ∧ w.frozen? ⟨g, 1, none⟩ = false ∧ w.frozen? ⟨g, 2, none⟩ = false :=
 ⟨⟨h.cell 0, h.cell 1, h.cell 2⟩, h.frozen 0, h.frozen 1, h.frozen 2⟩
theorem ct_ret {P : Program} {fn : Func} {p q : Tmp} {ty : TypeId} (h : fn.results = #[.cell p ty, .tmp q]) {tmps : Array Value} {w : World} {g : Nat} {t : TypeId} {cs : Array Value} {d : TypeDesc} {v : Value} (hb : Blk w g t cs)
  (hp : tmps.getD p undef = .pointer (some ⟨g, 0, none⟩)) (hq : tmps.getD q undef = v) (hu : P.underlying ty = some d) (hd : (match d with | .struct _ | .array _ _ => true | _ => false) = true) (hi : (P.info? ty).map (·.size) = some cs.size) :
  (results fn tmps).run P w = .ok (.tuple #[.agg cs, v]) w := by
 have hp' : tmps[p]?.getD undef = .pointer (some ⟨g, 0, none⟩) := by simpa using hp
 have hq' : tmps[q]?.getD undef = v := by simpa using hq
 simp [results, h, hp', hq', asAddr, run_loadVar_row w g t ty cs (0, 0) d hb hu hd hi]
theorem set3m {w : World} {g : Nat} {t : TypeId} {x0 x1 x2 y0 y1 y2 : Value} (h : Blk w g t #[x0, x1, x2]) : Blk (((w.setCell ⟨g, 0, none⟩ y0).setCell ⟨g, 1, none⟩ y1).setCell ⟨g, 2, none⟩ y2) g t #[y0, y1, y2] := by
 have := (((h.set_ 0 y0).set_ 1 y1).set_ 2 y2)
 simpa using this
theorem chg3m {S : List Nat} {a w : World} {g : Nat} {y0 y1 y2 : Value} (h : Chg S a w) (hg : g < a.heap.size → g ∈ S) : Chg S a (((w.setCell ⟨g, 0, none⟩ y0).setCell ⟨g, 1, none⟩ y1).setCell ⟨g, 2, none⟩ y2) := (((h.setCell (p := ⟨g, 0, none⟩) hg y0).setCell (p := ⟨g, 1, none⟩) hg y1).setCell (p := ⟨g, 2, none⟩) hg y2)
theorem set9m {w : World} {g : Nat} {t : TypeId} {x0 x1 x2 x3 x4 x5 x6 x7 x8 y0 y1 y2 y3 y4 y5 y6 y7 y8 : Value} (h : Blk w g t #[x0, x1, x2, x3, x4, x5, x6, x7, x8]) : Blk (((((((((w.setCell ⟨g, 0, none⟩ y0).setCell ⟨g, 1, none⟩ y1).setCell ⟨g, 2, none⟩ y2).setCell ⟨g, 3, none⟩ y3).setCell ⟨g, 4, none⟩ y4).setCell ⟨g, 5, none⟩ y5).setCell ⟨g, 6, none⟩ y6).setCell ⟨g, 7, none⟩ y7).setCell ⟨g, 8, none⟩ y8) g t #[y0, y1, y2, y3, y4, y5, y6, y7, y8] := by
 have := (((((((((h.set_ 0 y0).set_ 1 y1).set_ 2 y2).set_ 3 y3).set_ 4 y4).set_ 5 y5).set_ 6 y6).set_ 7 y7).set_ 8 y8)
 simpa using this
theorem chg9m {S : List Nat} {a w : World} {g : Nat} {y0 y1 y2 y3 y4 y5 y6 y7 y8 : Value} (h : Chg S a w) (hg : g < a.heap.size → g ∈ S) : Chg S a (((((((((w.setCell ⟨g, 0, none⟩ y0).setCell ⟨g, 1, none⟩ y1).setCell ⟨g, 2, none⟩ y2).setCell ⟨g, 3, none⟩ y3).setCell ⟨g, 4, none⟩ y4).setCell ⟨g, 5, none⟩ y5).setCell ⟨g, 6, none⟩ y6).setCell ⟨g, 7, none⟩ y7).setCell ⟨g, 8, none⟩ y8) := (((((((((h.setCell (p := ⟨g, 0, none⟩) hg y0).setCell (p := ⟨g, 1, none⟩) hg y1).setCell (p := ⟨g, 2, none⟩) hg y2).setCell (p := ⟨g, 3, none⟩) hg y3).setCell (p := ⟨g, 4, none⟩) hg y4).setCell (p := ⟨g, 5, none⟩) hg y5).setCell (p := ⟨g, 6, none⟩) hg y6).setCell (p := ⟨g, 7, none⟩) hg y7).setCell (p := ⟨g, 8, none⟩) hg y8)
def mmC (t hp : Nat) : Array Value := #[.pointer (some ⟨t, 0, none⟩), .pointer (some ⟨hp, 0, none⟩)]
theorem rd_some {n : Nat} {W : List Int} {f i : Int} : (rdH n W f i).isSome = (hasW n f i && (getE (getW n W f i).toNat).p) := by
 unfold rdH; split <;> simp_all
set_option maxRecDepth 100000 in
set_option maxHeartbeats 8000000 in
theorem Entry_any {m hp hb t n : Nat} {W : List Int} (f page lev : Int) (w : World) (hl1 : 1 ≤ lev) (hl3 : lev ≤ 3) (hB : Blk w m 156 (mmC t hp)) (hM : MemAt w hp hb n W) (hW : WdW W) :
  Calls Tryz.prog 92 #[.pointer (some ⟨m, 0, none⟩), .int .i64 f, .int .i64 page, .int .i64 lev] w fun e w' => e = .returned (.tuple #[.agg (getE (getW n W f (idxI page lev)).toNat).cs, .bool (rdH n W f (idxI page lev)).isSome]) ∧ Chg [] w w' := by
 have H0 := (SepC.nil w).alloc #[.bool false, .bool false, .bool false, .bool false, .bool false, .bool false, .bool false, .bool false, .int .i64 0] 172
 have y0 := H0.1
 have hz : w.heap.size < w.heap.size + 1 := by omega
 have hB' := y0.blk hB (by simp)
 have hM' := hM.chg y0 (by simp) (by simp)
 have c1 := hB'.cell 1
 unfold mmC at c1
 simp only [qA, qZ, qS] at c1
 obtain ⟨hgv, hgl⟩ := hW.nat_ n f (idxI page lev)
 rw [rd_some]
 generalize hw1 : w.alloc (.cells #[.bool false, .bool false, .bool false, .bool false, .bool false, .bool false, .bool false, .bool false, .int .i64 0] 172) = w1 at *
 have HI := fun nq : Cls w1 => (Idx_any page lev nq.val (by omega) (by omega)).mono fun _ _ ⟨h1, h2⟩ => (⟨h1, h2.chg⟩ : _ ∧ Chg [] nq.val _)
 have HG : ∀ nq : Cls w1, Calls Tryz.prog 167 #[.pointer (some ⟨hp, 0, none⟩), .int .i64 f, .int .i64 (idxI page lev)] nq.val fun e w' => e = .returned (.tuple #[.int .u64 (getW n W f (idxI page lev)), .bool (hasW n f (idxI page lev))]) ∧ Chg [] nq.val w' := fun nq => (Get_at hp hb n W f (idxI page lev) nq.val (hM'.chg nq.ok (by simp) (by simp))).mono fun _ _ ⟨h1, h2⟩ => ⟨h1, by subst h2; exact Chg.refl _ _⟩
 have HE := fun w' => Get_any (getW n W f (idxI page lev)).toNat w' hgl
 rw [← hgv] at HG
 clear hgv hgl
 generalize (getW n W f (idxI page lev)).toNat = v at *
 generalize hasW n f (idxI page lev) = is at *
 generalize idxI page lev = ix at *
 generalize getE v = ent at *
 obtain ⟨ep, ew, eu, ea, ed, es, en, eb, ef⟩ := ent
 simp only [Ent.cs] at HE ⊢
 have K1 := fun nq : Cls w1 => nq.cell c1
 clear c1 hM' hB' hM hB
 replace hw1 := Lib.hid hw1
 go_enter Tryz.func92, Tryz.ntmps92
 go_upto_region 1 with fail
 (try rw [hw1.out])
 refine wp_region_cls (by kernel_rfl) (by kernel_rfl) ?_
 repeat (go_big_quiet_step (first | (go_at_call 158; with_reducible exact Calls.cls (HI _)) | (go_at_call 167; with_reducible exact Calls.cls (HG _))))
 refine wpQuiet_nil ?_
 rintro _ ⟨nq, rfl⟩
 have H1 := H0.new nq.ok
 clear H0 HI HG K1 y0
 generalize nq.val = w4 at *
 clear nq
 go_wp2_with fail
 refine (HE _).mono ?_; rintro e w5 ⟨rfl, y5⟩
 clear HE
 have hgl := (H1.new y5).blk.lt
 have H2 := (H1.new y5).alloc #[.bool ep, .bool ew, .bool eu, .bool ea, .bool ed, .bool es, .bool en, .bool eb, .int .i64 ef] 172
 clear H1 y5
 go_upto_region 3 with fail
 generalize w5.alloc (.cells #[.bool ep, .bool ew, .bool eu, .bool ea, .bool ed, .bool es, .bool en, .bool eb, .int .i64 ef] 172) = w6 at *
 generalize w5.heap.size = ge at *
 clear w5 w4 hw1 w1
 have be := H2.blk
 have bz := (H2.pick 1 rfl).blk
 generalize hgz : w.heap.size = gz at *
 have hn1 : ¬ ge = gz := by omega
 have hn2 : ¬ gz = ge := by omega
 have e0 := be.cell 0; have e1 := be.cell 1; have e2 := be.cell 2; have e3 := be.cell 3; have e4 := be.cell 4; have e5 := be.cell 5; have e6 := be.cell 6; have e7 := be.cell 7; have e8 := be.cell 8
 simp only [qA, qZ, qS] at e0 e1 e2 e3 e4 e5 e6 e7 e8
 have z0 := bz.cell 0; have z1 := bz.cell 1; have z2 := bz.cell 2; have z3 := bz.cell 3; have z4 := bz.cell 4; have z5 := bz.cell 5; have z6 := bz.cell 6; have z7 := bz.cell 7; have z8 := bz.cell 8
 simp only [qA, qZ, qS] at z0 z1 z2 z3 z4 z5 z6 z7 z8
 have f0 := bz.frozen 0; have f1 := bz.frozen 1; have f2 := bz.frozen 2; have f3 := bz.frozen 3; have f4 := bz.frozen 4; have f5 := bz.frozen 5; have f6 := bz.frozen 6; have f7 := bz.frozen 7; have f8 := bz.frozen 8
 have hy := H2.1
 skip
 cases is
 ·go_region
  go_wp2_with fail
  exact bodyPost_ret (ct_ret rfl ((set9m bz (y0 := .bool ep) (y1 := .bool ew) (y2 := .bool eu) (y3 := .bool ea) (y4 := .bool ed) (y5 := .bool es) (y6 := .bool en) (y7 := .bool eb) (y8 := .int .i64 ef)).drew) rfl rfl Tryz.underlying172 rfl (by kernel_rfl)) rfl ⟨rfl, (chg9m hy (fun h => absurd h (by omega))).drew⟩
 go_region
 go_wp2_with fail
 exact bodyPost_ret (ct_ret rfl ((set9m bz (y0 := .bool ep) (y1 := .bool ew) (y2 := .bool eu) (y3 := .bool ea) (y4 := .bool ed) (y5 := .bool es) (y6 := .bool en) (y7 := .bool eb) (y8 := .int .i64 ef)).drew) rfl rfl Tryz.underlying172 rfl (by kernel_rfl)) rfl ⟨rfl, (chg9m hy (fun h => absurd h (by omega))).drew⟩
theorem scope_back {P : Program} {a : Act} {w : World} {Q : Exit → Act → World → Prop} {c X : Code} (l : Nat) (J : Act → World → Prop) (μ : Act → World → Nat) (hf : findLabel c l = some (Code.skip.seq X))
  (first : ∀ Q', (∀ a w, J a w → X.wp P Q' a w) → (∀ e a w, (∀ n, e ≠ .goto n) → Q e a w → Q' e a w) → c.wp P Q' a w)
  (pass : ∀ a w, J a w → X.wp P (Exit.jump l (fun a' w' => J a' w' ∧ μ a' w' < μ a w) Q) a w) : (Code.scope c).wp P Q a w :=
 wp_scope_jumps l J μ hf (first _ (fun a w hj => wp_mono (pass a w hj) fun e a w hq => by
  cases e with
  | goto l' => exact ⟨hq.1, hq.2.1⟩
  | _ => exact hq) fun e a w hne hq => by
  cases e with
  | goto l' => exact absurd rfl (hne l')
  | _ => exact hq) fun a w hj => wp_seq (wp_skip (pass a w hj))
theorem rd_is {n : Nat} {W : List Int} {f i : Int} {e : Ent} (h : rdH n W f i = some e) : getE (getW n W f i).toNat = e ∧ e.p = true := by
 unfold rdH at h
 split at h
 ·rename_i h2
  simp only [Option.some.injEq] at h
  rw [Bool.and_eq_true] at h2
  exact ⟨h, h ▸ h2.2⟩
 cases h
def AtDown (n : Nat) (W : List Int) (root page : Int) (m gz : Nat) (w : World) (a' : Act) (w' : World) : Prop := ∃ (k : Nat) (f : Int) (r : Rg) (rc : Nat) (u3_ u4_ u5_ u12_ u13_ u14_ u15_ u16_ u17_ u18_ u19_ u20_ u21_ u22_ u23_ u24_ u25_ u26_ u27_ u28_ u29_ u30_ u31_ u32_ u33_ u34_ u35_ u36_ u37_ u38_ u39_ : Value), k < 3 ∧ a' = { tmps := #[.pointer (some ⟨m, 0, none⟩), .int .i64 root, .int .i64 page, u3_, u4_, u5_, .int .i64 0, .pointer (some ⟨gz, 0, none⟩), .bool false, .int .i64 f, .pointer (some ⟨rc, 0, none⟩), .int .i64 (3 - (k : Int)), u12_, u13_, u14_, u15_, u16_, u17_, u18_, u19_, u20_, u21_, u22_, u23_, u24_, u25_, u26_, u27_, u28_, u29_, u30_, u31_, u32_, u33_, u34_, u35_, u36_, u37_, u38_, u39_], defers := [] } ∧ walkK n W root page k = some (f, r) ∧ SepC w w' (blkT rc 54 #[.bool r.w, .bool r.u, .bool r.x] :: blkT gz 54 #[.bool false, .bool false, .bool false] :: [])
set_option maxRecDepth 100000 in
set_option maxHeartbeats 8000000 in
theorem Walk_any {m hp hb t n : Nat} {W : List Int} (root page : Int) (w : World) (hB : Blk w m 156 (mmC t hp)) (hM : MemAt w hp hb n W) (hW : WdW W) :
  Calls Tryz.prog 39 #[.pointer (some ⟨m, 0, none⟩), .int .i64 root, .int .i64 page] w fun e w' => e = .returned (.tuple #[.int .i64 (walkF n W root page), .agg (walkR n W root page).cs, .bool (walkH n W root page).isSome]) ∧ Chg [] w w' := by
 have hA := fun w' => All_any w'
 simp only [Rg.all, Rg.cs] at hA
 simp only [Rg.cs]
 have H0 := (SepC.nil w).alloc #[.bool false, .bool false, .bool false] 54
 obtain ⟨gz, hgz⟩ : ∃ gz, w.heap.size = gz := ⟨_, rfl⟩
 rw [hgz] at H0
 have y0 := H0.1
 generalize hw1 : w.alloc (.cells #[.bool false, .bool false, .bool false] 54) = w1 at *
 replace hw1 := Lib.hid hw1
 go_enter Tryz.func39, Tryz.ntmps39
 go_wp2
 refine scope_back 0 (AtDown n W root page m gz w) (fun a' _ => (intOf (a'.tmps.getD 11 undef)).toNat) rfl ?_ ?_
 ·intro Q' hJ hQ'
  go_wp2_with fail
  (try rw [hw1.out])
  refine (hA _).mono ?_; rintro e w2 ⟨rfl, y2⟩
  clear hA
  have H2 := (H0.new y2).alloc #[.bool true, .bool true, .bool true] 54
  clear H0 y2 y0 hw1
  go_wp2_with fail
  (try rw [hgz])
  go_step3
  rename_i hK_
  exact hK_ _ _ (hJ _ _ ⟨0, root, Rg.all, _, _, _, _, _, _, _, _, _, _, _, _, _, _, _, _, _, _, _, _, _, _, _, _, _, _, _, _, _, _, _, _, by omega, rfl, rfl, H2⟩)
 rintro a' w4 ⟨k, f, ⟨rw_, ru, rx⟩, rc, u3_, u4_, u5_, u12_, u13_, u14_, u15_, u16_, u17_, u18_, u19_, u20_, u21_, u22_, u23_, u24_, u25_, u26_, u27_, u28_, u29_, u30_, u31_, u32_, u33_, u34_, u35_, u36_, u37_, u38_, u39_, hlt, rfl, hwk, H⟩
 have hM' := hM.chg H.1 (by simp) (by simp)
 have hB' := H.1.blk hB (by simp)
 have hE := Entry_any f page (3 - (k : Int)) w4 (by omega) (by omega) hB' hM' hW
 clear hB' hM'
 cases hr : rdH n W f (idxI page (3 - (k : Int))) with
 | none =>
  have hst := walkK_stop hlt hwk hr
  rw [hr] at hE
  generalize getE (getW n W f (idxI page (3 - (k : Int)))).toNat = ent at *
  obtain ⟨ep, ew, eu, ea, ed, es, en, eb, ef⟩ := ent
  simp only [Ent.cs, Option.isSome_none] at hE
  go_wp2_with fail
  refine hE.mono ?_; rintro e w5 ⟨rfl, y5⟩
  clear hE
  have H4 := (H.new y5).alloc #[.bool ep, .bool ew, .bool eu, .bool ea, .bool ed, .bool es, .bool en, .bool eb, .int .i64 ef] 172
  clear H y5
  have bz := (H4.pick 2 rfl).blk
  obtain ⟨⟨z0, z1, z2⟩, f0, f1, f2⟩ := blk3f bz
  go_wp2_with fail
  obtain ⟨q1, q2, q3⟩ := walk_not hst
  (try simp only [Exit.jump])
  exact bodyPost_ret (tct_ret rfl (set3m (y0 := .bool false) (y1 := .bool false) (y2 := .bool false) bz) rfl rfl rfl Tryz.underlying54 rfl (by kernel_rfl)) rfl ⟨by rw [q1, q2, q3]; rfl, (chg3m H4.1 (fun h => absurd h (by omega)))⟩
 | some ent =>
  have hst := walkK_go hwk hr
  obtain ⟨hg, hp_⟩ := rd_is hr
  rw [hr, hg] at hE
  clear hg
  obtain ⟨ep, ew, eu, ea, ed, es, en, eb, ef⟩ := ent
  simp only at hp_
  subst hp_
  simp only [ofE, Rg.and] at hst
  simp only [Ent.cs, Option.isSome_some] at hE
  go_wp2_with fail
  refine hE.mono ?_; rintro e w5 ⟨rfl, y5⟩
  clear hE
  have H4 := (H.new y5).alloc #[.bool true, .bool ew, .bool eu, .bool ea, .bool ed, .bool es, .bool en, .bool eb, .int .i64 ef] 172
  clear H y5
  go_upto_region 5 with fail
  generalize w5.alloc (.cells #[.bool true, .bool ew, .bool eu, .bool ea, .bool ed, .bool es, .bool en, .bool eb, .int .i64 ef] 172) = w6 at *
  generalize w5.heap.size = ge at *
  clear w5
  have be := H4.blk
  have br := (H4.pick 1 rfl).blk
  have hOf := fun w' => Of_any true ew eu ea ed es en eb ef w'
  have hMt := fun (g : Nat) w' (hb : Blk w' g 54 #[.bool rw_, .bool ru, .bool rx, .bool ew, .bool eu, .bool !en]) => Meet_any (some ⟨g, 0, none⟩) 2 2 [⟨rw_, ru, rx⟩, ⟨ew, eu, !en⟩] w' (SlR.made2 _ _ hb) (by decide)
  simp only [meet2, Rg.and, Rg.cs] at hMt
  refine wp_region_noPanic ?_
  refine late_region (S := (fun w' => Chg [] w6 w')) (Z := 8) (by kernel_rfl) ((Chg.refl [] w6).drew) (fun hHeld => ?_)
  have yy := hHeld
  clear hHeld
  have hHeld := yy
  (refine lk 0 27 ?_ ?_ ?_; rotate_left; · (intro w hSw; go_simp; (try with_reducible rfl)))
  (try simp only [Act.put, qI, qO, qU])
  (refine lk 1 28 ?_ ?_ ?_; rotate_left; · (intro w hSw; (try dsimp only at hSw); have b_ := hSw.blk be (by simp); have e0 := b_.cell 0; have e1 := b_.cell 1; have e2 := b_.cell 2; have e3 := b_.cell 3; have e4 := b_.cell 4; have e5 := b_.cell 5; have e6 := b_.cell 6; have e7 := b_.cell 7; have e8 := b_.cell 8; simp only [qA, qZ, qS] at e0 e1 e2 e3 e4 e5 e6 e7 e8; go_simp; (try with_reducible rfl)))
  (try simp only [Act.put, qI, qO, qU])
  (refine lk 2 29 ?_ ?_ ?_; rotate_left; · (intro w hSw; (try dsimp only at hSw); have b_ := hSw.blk br (by simp); obtain ⟨⟨p0, p1, p2⟩, _⟩ := blk3f b_; go_simp; (try with_reducible rfl)))
  (try simp only [Act.put, qI, qO, qU])
  (refine lk 3 30 ?_ ?_ ?_; rotate_left; · (intro w hSw; (try dsimp only at hSw); have b_ := hSw.blk be (by simp); have e0 := b_.cell 0; have e1 := b_.cell 1; have e2 := b_.cell 2; have e3 := b_.cell 3; have e4 := b_.cell 4; have e5 := b_.cell 5; have e6 := b_.cell 6; have e7 := b_.cell 7; have e8 := b_.cell 8; simp only [qA, qZ, qS] at e0 e1 e2 e3 e4 e5 e6 e7 e8; go_simp; (try with_reducible rfl)))
  (try simp only [Act.put, qI, qO, qU])
  refine lrdy 4 fun K hK => ?_
  go_simp
  (go_at_call 94; refine (hOf _).mono ?_; rintro e u1 ⟨rfl, k1⟩)
  replace yy := yy.trans k1 (by simp)
  clear k1 hHeld
  refine hK.out _ _ (fun _ => by (try dsimp only); exact yy) ?_
  clear hK K
  (try simp only [Act.put, qI, qO, qU])
  refine lrdy 5 fun K hK => ?_
  go_simp
  have bm := Blk.new u1 54 #[.bool rw_, .bool ru, .bool rx, .bool ew, .bool eu, .bool !en]
  replace yy := yy.alloc (.cells #[.bool rw_, .bool ru, .bool rx, .bool ew, .bool eu, .bool !en] 54)
  refine hK.out _ _ (fun _ => by (try dsimp only); exact yy) ?_
  clear hK K
  (try simp only [Act.put, qI, qO, qU])
  generalize u1.alloc (.cells #[.bool rw_, .bool ru, .bool rx, .bool ew, .bool eu, .bool !en] 54) = u2 at *
  generalize u1.heap.size = gm at *
  refine lrdy 6 fun K hK => ?_
  go_simp
  (go_at_call 93; refine (hMt gm _ bm).mono ?_; rintro e u3 ⟨rfl, k3⟩)
  replace yy := yy.trans k3 (by simp)
  clear k3 bm
  refine hK.out _ _ (fun _ => by (try dsimp only); exact yy) ?_
  clear hK K
  (try simp only [Act.put, qI, qO, qU])
  have hHeld := yy
  (refine lk 7 9 ?_ ?_ ?_; rotate_left; · (intro w hSw; go_simp; (try with_reducible rfl)))
  (try simp only [Act.put, qI, qO, qU])
  have H5 := (H4.new yy).pick 1 rfl
  have br5 := H5.blk
  obtain ⟨⟨p0, p1, p2⟩, g0, g1, g2⟩ := blk3f br5
  clear hHeld yy H4 be br br5 hOf hMt
  refine lrdy 8 fun K hK => ?_
  go_simp
  refine hK.out _ _ (fun e => absurd rfl e) ?_
  clear hK K
  (try simp only [Act.put, qI, qO, qU])
  refine late_done (by kernel_rfl) ?_ _
  refine NoPanic.normal ?_
  clear p0 p1 p2 g0 g1 g2
  have H6 := H5.put3 (.bool (rw_ && ew)) (.bool (ru && eu)) (.bool (rx && !en))
  generalize ((u3.setCell ⟨rc, 0, none⟩ (.bool (rw_ && ew))).setCell ⟨rc, 1, none⟩ (.bool (ru && eu))).setCell ⟨rc, 2, none⟩ (.bool (rx && !en)) = w7 at *
  replace H6 : SepC w w7 (blkT rc 54 #[.bool (rw_ && ew), .bool (ru && eu), .bool (rx && !en)] :: blkT gz 54 #[.bool false, .bool false, .bool false] :: []) := (H6.pick 1 rfl).tail
  clear H5
  by_cases hk2 : k < 2
  ·have hgt : decide ((3 : Int) - (k : Int) > 1) = true := decide_eq_true (by omega)
   go_wp2_with fail
   rw [show (3 : Int) - (k : Int) - 1 = 3 - ((k + 1 : Nat) : Int) by omega]
   go_step3
   (try simp only [Exit.then])
   refine ⟨rfl, ⟨k + 1, ef, ⟨rw_ && ew, ru && eu, rx && !en⟩, rc, _, _, _, _, _, _, _, _, _, _, _, _, _, _, _, _, _, _, _, _, _, _, _, _, _, _, _, _, _, _, _, by omega, rfl, hst, H6⟩, ?_⟩
   simp [intOf]
   omega
  obtain rfl : k = 2 := by omega
  have hgt : decide ((3 : Int) - ((2 : Nat) : Int) > 1) = false := by decide
  rw [walkK_3] at hst
  obtain ⟨q1, q2, q3⟩ := walk_is hst
  have br := H6.blk
  have bz := (H6.pick 1 rfl).blk
  obtain ⟨⟨p0, p1, p2⟩, _⟩ := blk3f br
  obtain ⟨⟨z0, z1, z2⟩, f0, f1, f2⟩ := blk3f bz
  have hz := (H6.pick 1 rfl).put3 (.bool (rw_ && ew)) (.bool (ru && eu)) (.bool (rx && !en))
  go_wp2_with fail
  go_region
  go_wp2_with fail
  (try simp only [Exit.jump])
  exact bodyPost_ret (tct_ret rfl (hz.blk.drew) rfl rfl rfl Tryz.underlying54 rfl (by kernel_rfl)) rfl ⟨by rw [q1, q2, q3]; rfl, hz.1.drew⟩
end Go.Proofs.YtmbgepafpcbakaaGreatDoor
