/-
 FillAnew: the law, walked from contracts.
-/
import Derived.Test.YtmbgepafpcbakaaGreatDoorFlNK
import Derived.Deep.CutRange
import Derived.Deep.CutBlock
namespace Go.Proofs.YtmbgepafpcbakaaGreatDoor
open Go.RowKit Go.Maps
def arrN (n : Nat) (F : Nat → Value) : Array Value := ((List.range n).map F).toArray
theorem arrN_get {n : Nat} {F : Nat → Value} {j : Nat} (h : j < n) : (arrN n F)[j]? = some (F j) := by simp [arrN, h]
theorem arrN_set {n : Nat} {F : Nat → Value} (j : Nat) (v : Value) : (arrN n F).setIfInBounds j v = arrN n (fun i => if i = j then v else F i) := by
 apply Array.ext'
 apply List.ext_getElem?
 intro i
 simp only [arrN, qI, List.getElem?_set, List.getElem?_map, List.length_map, List.length_range]
 by_cases hij : j = i
 ·subst hij
  by_cases hj : j < n
  ·simp [hj]
  simp [hj]
 rw [if_neg hij]
 by_cases hi : i < n
 ·simp [hi, Ne.symm hij]
 simp [hi]
theorem arrN_congr {n : Nat} {F G : Nat → Value} (h : ∀ j, j < n → F j = G j) : arrN n F = arrN n G := by
 unfold arrN; congr 1; exact List.map_congr_left fun j hj => h j (List.mem_range.1 hj)
def bitR (r : Rg) (z : Nat) : Bool := if z % 3 = 0 then r.w else if z % 3 = 1 then r.u else r.x
def fsI (x : Nat → Int) (k j : Nat) : Value := .int .i64 (if j < k then x j else 0)
def fsB (b : Nat → Bool) (k j : Nat) : Value := .bool (if j < k then b j else false)
def fsR (r : Nat → Rg) (k z : Nat) : Value := .bool (if z / 3 < k then bitR (r (z / 3)) z else false)
theorem fsI_next (x : Nat → Int) (k : Nat) : (arrN 512 (fsI x k)).setIfInBounds k (.int .i64 (x k)) = arrN 512 (fsI x (k + 1)) := by
 rw [arrN_set]
 refine arrN_congr fun j _ => ?_
 unfold fsI
 by_cases h : j = k
 ·subst h; rw [if_pos rfl, if_pos (by omega)]
 rw [if_neg h]; by_cases h2 : j < k
 ·rw [if_pos h2, if_pos (by omega)]
 rw [if_neg h2, if_neg (by omega)]
theorem fsB_next (x : Nat → Bool) (k : Nat) : (arrN 512 (fsB x k)).setIfInBounds k (.bool (x k)) = arrN 512 (fsB x (k + 1)) := by
 rw [arrN_set]
 refine arrN_congr fun j _ => ?_
 unfold fsB
 by_cases h : j = k
 ·subst h; rw [if_pos rfl, if_pos (by omega)]
 rw [if_neg h]; by_cases h2 : j < k
 ·rw [if_pos h2, if_pos (by omega)]
 rw [if_neg h2, if_neg (by omega)]
theorem fsR_next (r : Nat → Rg) (k : Nat) : (((arrN 1536 (fsR r k)).setIfInBounds (k * 3) (.bool (r k).w)).setIfInBounds (k * 3 + 1) (.bool (r k).u)).setIfInBounds (k * 3 + 2) (.bool (r k).x) = arrN 1536 (fsR r (k + 1)) := by
 rw [arrN_set, arrN_set, arrN_set]
 refine arrN_congr fun z _ => ?_
 unfold fsR
 by_cases h2 : z = k * 3 + 2
 ·subst h2
  have e1 : (k * 3 + 2) / 3 = k := by omega
  have e2 : (k * 3 + 2) % 3 = 2 := by omega
  unfold bitR; rw [if_pos rfl, e1, e2, if_pos (by omega)]; rfl
 rw [if_neg h2]
 by_cases h1 : z = k * 3 + 1
 ·subst h1
  have e1 : (k * 3 + 1) / 3 = k := by omega
  have e2 : (k * 3 + 1) % 3 = 1 := by omega
  unfold bitR; rw [if_pos rfl, e1, e2, if_pos (by omega)]; rfl
 rw [if_neg h1]
 by_cases h0 : z = k * 3
 ·subst h0
  have e1 : (k * 3) / 3 = k := by omega
  have e2 : (k * 3) % 3 = 0 := by omega
  unfold bitR; rw [if_pos rfl, e1, e2, if_pos (by omega)]; rfl
 rw [if_neg h0]
 by_cases h : z / 3 < k
 ·rw [if_pos h, if_pos (by omega)]
 rw [if_neg h, if_neg (by omega)]
theorem fs_none {x : Nat → Int} {r : Nat → Rg} {b : Nat → Bool} (h : ∀ j, x j = 0 ∧ r j = ⟨false, false, false⟩ ∧ b j = false) (k : Nat) : arrN 512 (fsI x 0) = arrN 512 (fsI x k) ∧ arrN 1536 (fsR r 0) = arrN 1536 (fsR r k) ∧ arrN 512 (fsB b 0) = arrN 512 (fsB b k) := by
 refine ⟨arrN_congr fun j _ => ?_, arrN_congr fun j _ => ?_, arrN_congr fun j _ => ?_⟩
 ·unfold fsI; rw [(h j).1]; simp
 ·unfold fsR; rw [(h (j / 3)).2.1]; unfold bitR; simp
 unfold fsB; rw [(h j).2.2]; simp
theorem do_zero (d : Gd) (o : Fst) : doF d ⟨0, o.root, o.page, o.kind, o.user, o.g, o.i, o.v, o.nn⟩ = fillO d o.root o.page o.kind o.user := by
 unfold doF
 rw [if_neg (show ¬ (0 : Int) = 4 by decide), if_neg (show ¬ (0 : Int) = 5 by decide), if_neg (show ¬ (0 : Int) = 6 by decide), if_neg (show ¬ (0 : Int) = 7 by decide), if_neg (show ¬ (0 : Int) = 8 by decide), if_neg (show ¬ (0 : Int) = 9 by decide)]
theorem view_run (d : Gd) (root : Int) : ∃ (x : Nat → Int) (r : Nat → Rg) (b : Nat → Bool), (∀ k : Nat, viewF d root k = if b k then some (x k, r k) else none) ∧
  ((pgOf d.s.L ⟨root, 3, 0⟩).isSome = true → ∀ k : Nat, walkF 40 d.s.W (findV d.s.L ⟨root, 3, 0⟩) k = x k ∧ walkR 40 d.s.W (findV d.s.L ⟨root, 3, 0⟩) k = r k ∧ (walkH 40 d.s.W (findV d.s.L ⟨root, 3, 0⟩) k).isSome = b k) ∧
  ((pgOf d.s.L ⟨root, 3, 0⟩).isSome = false → ∀ k, x k = 0 ∧ r k = ⟨false, false, false⟩ ∧ b k = false) := by
 refine ⟨fun k => ((viewF d root k).map Prod.fst).getD 0, fun k => ((viewF d root k).map Prod.snd).getD ⟨false, false, false⟩, fun k => (viewF d root k).isSome, fun k => ?_, fun h k => ?_, fun h k => ?_⟩
 ·show viewF d root k = if (viewF d root k).isSome = true then some (((viewF d root k).map Prod.fst).getD 0, ((viewF d root k).map Prod.snd).getD ⟨false, false, false⟩) else none
  cases viewF d root k <;> rfl
 ·show walkF 40 d.s.W _ k = ((viewF d root k).map Prod.fst).getD 0 ∧ walkR 40 d.s.W _ k = ((viewF d root k).map Prod.snd).getD ⟨false, false, false⟩ ∧ _ = (viewF d root k).isSome
  rw [view_find h]; exact ⟨rfl, rfl, rfl⟩
 show ((viewF d root k).map Prod.fst).getD 0 = 0 ∧ ((viewF d root k).map Prod.snd).getD ⟨false, false, false⟩ = _ ∧ (viewF d root k).isSome = false
 rw [view_none h]; exact ⟨rfl, rfl, rfl⟩
theorem in_run (A : List Int) (n : Int) : ∃ t : Nat → Bool, t 0 = false ∧ (∀ k x, A[k]? = some x → t (k + 1) = (t k || (x == n))) ∧ (n ∈ A → t A.length = true) := by
 refine ⟨fun k => (A.take k).any fun x => x == n, by simp, fun k x hx => ?_, fun h => ?_⟩
 ·obtain ⟨h1, h2⟩ := List.getElem?_eq_some_iff.1 hx
  show (A.take (k + 1)).any _ = ((A.take k).any _ || _)
  rw [List.take_succ_eq_append_getElem h1, h2, List.any_append]
  simp
 show (A.take A.length).any _ = true
 rw [List.take_length, List.any_eq_true]
 exact ⟨n, h, by simp⟩
theorem z90 (x : Nat → Int) : Tryz.zeroCells90 = arrN 512 (fsI x 0) := by
 have h : Tryz.zeroCells90 = arrN 512 (fun _ => .int .i64 0) := by kernel_rfl
 rw [h]; exact arrN_congr fun j _ => by unfold fsI; simp
theorem z91 (x : Nat → Rg) : Tryz.zeroCells91 = arrN 1536 (fsR x 0) := by
 have h : Tryz.zeroCells91 = arrN 1536 (fun _ => .bool false) := by kernel_rfl
 rw [h]; exact arrN_congr fun j _ => by unfold fsR; simp
theorem z92 (x : Nat → Bool) : Tryz.zeroCells92 = arrN 512 (fsB x 0) := by
 have h : Tryz.zeroCells92 = arrN 512 (fun _ => .bool false) := by kernel_rfl
 rw [h]; exact arrN_congr fun j _ => by unfold fsB; simp
theorem fsR_at (r : Nat → Rg) {j : Nat} (h : j < 512) : (arrN 1536 (fsR r 512))[j * 3]? = some (.bool (r j).w) ∧ (arrN 1536 (fsR r 512))[j * 3 + 1]? = some (.bool (r j).u) ∧ (arrN 1536 (fsR r 512))[j * 3 + 2]? = some (.bool (r j).x) := by
 rw [arrN_get (by omega), arrN_get (by omega), arrN_get (by omega)]
 have e0 : (j * 3) / 3 = j := by omega
 have e1 : (j * 3 + 1) / 3 = j := by omega
 have e2 : (j * 3 + 2) / 3 = j := by omega
 have m0 : (j * 3) % 3 = 0 := by omega
 have m1 : (j * 3 + 1) % 3 = 1 := by omega
 have m2 : (j * 3 + 2) % 3 = 2 := by omega
 unfold fsR bitR
 rw [e0, e1, e2, m0, m1, m2, if_pos h, if_pos h, if_pos h]
 exact ⟨rfl, rfl, rfl⟩
theorem fs_at (x : Nat → Int) (b : Nat → Bool) {j : Nat} (h : j < 512) : (arrN 512 (fsI x 512))[j]? = some (.int .i64 (x j)) ∧ (arrN 512 (fsB b 512))[j]? = some (.bool (b j)) := by
 rw [arrN_get h, arrN_get h]
 unfold fsI fsB
 rw [if_pos h, if_pos h]
 exact ⟨rfl, rfl⟩
theorem anew_cond {d D : Gd} {root tf : Int} {A : List Int} {vx : Nat → Int} {vr : Nat → Rg} {vb : Nat → Bool} (hv : ∀ k : Nat, viewF d root k = if vb k then some (vx k, vr k) else none)
  (ha : ∀ k : Nat, k < 512 → ∀ x r, walkH 40 D.s.W tf k = some (x, r) → (k : Int) ∈ A ∨ ∃ r0, viewF d root k = some (x, r0) ∧ under r r0 = true) {j : Nat} (hj : j < 512) :
  ∃ x r tb, walkF 40 D.s.W tf j = x ∧ walkR 40 D.s.W tf j = r ∧ (walkH 40 D.s.W tf j).isSome = tb ∧ ((!tb || ((vb j && decide (vx j = x)) && under r (vr j))) = false → (j : Int) ∈ A) := by
 cases e : walkH 40 D.s.W tf j with
 | none =>
  obtain ⟨h1, h2, _⟩ := walk_not e
  exact ⟨_, _, false, h1, h2, rfl, fun h => by simp at h⟩
 | some y =>
  obtain ⟨x, r⟩ := y
  obtain ⟨h1, h2, _⟩ := walk_is e
  refine ⟨x, r, true, h1, h2, rfl, fun h => ?_⟩
  rcases ha j hj x r e with h3 | ⟨r0, h3, h4⟩
  ·exact h3
  rw [hv j] at h3
  cases hb : vb j with
  | false => rw [hb] at h3; cases h3
  | true =>
   rw [hb, if_pos rfl] at h3
   injection h3 with h3
   rw [Prod.mk.injEq] at h3
   rw [hb, h3.1, h3.2, h4] at h
   simp at h
set_option maxRecDepth 100000 in
set_option maxHeartbeats 20000000 in
theorem lawFillAnew_any (A : Option Addr) (n c : Nat) (P : List Pu) (B : Option Addr) (m e0 : Nat) (L : List Fst) (oo : Fst) (w : World) (hP : SlP w A n P) (hl : FopsIn w B m L) (hE : ErrIn w)  (hoo : oo.Wf):
  Calls Tryz.prog 5 #[.slice A n c, .slice B m e0, .agg #[.int .i64 oo.what, .int .i64 oo.root, .int .i64 oo.page, .int .i64 oo.kind, .bool oo.user, .int .i64 oo.g, .int .i64 oo.i, .int .u64 oo.v, .int .i64 oo.nn]] w fun e w' => e = .returned (.bool true) ∧ Chg [] w w' := by
 have hHd := fun w' (h : ErrIn w') => FHead_any w' h
 have hGr := fun z => Great17_any A n c B m e0 z
 have hmm := hl.sl.len
 have hm9 := hl.sl.le
 replace hmm := Lib.hid hmm
 have H0 := (SepC.nil w).alloc #[.int .i64 oo.what, .int .i64 oo.root, .int .i64 oo.page, .int .i64 oo.kind, .bool oo.user, .int .i64 oo.g, .int .i64 oo.i, .int .u64 oo.v, .int .i64 oo.nn] 61
 cases hg_ : (decide (n > 600) || decide (m > 60))
 rotate_left
 ·rw [hg_] at hGr
  go_enter Tryz.func5, Tryz.ntmps5
  go_wp2_with fail
  generalize (w.alloc (.cells #[.int .i64 oo.what, .int .i64 oo.root, .int .i64 oo.page, .int .i64 oo.kind, .bool oo.user, .int .i64 oo.g, .int .i64 oo.i, .int .u64 oo.v, .int .i64 oo.nn] 61)) = z0 at *
  generalize w.heap.size = ob at *
  refine (hHd _ (hE.new H0.1)).mono ?_; rintro e z1 ⟨rfl, y1⟩
  have H1 := H0.new y1
  clear H0 y1 hHd
  go_wp2_with fail
  refine (Made16_at (hP.self H1.1)).mono ?_; intro e z2 hMP
  unfold MadeP16 at hMP
  obtain ⟨wb, dd, gq, mp, q, hp, hb, t, rfl, HM⟩ := hMP
  have H := H1.merge HM
  clear H1 HM hP
  go_wp2_with fail
  refine (hGr _).mono ?_; rintro e z3 ⟨rfl, rfl⟩
  clear hGr
  go_wp2_with fail
  go_ret
  exact ⟨rfl, H.1⟩
 rw [hg_] at hGr
 clear hg_
 go_enter Tryz.func5, Tryz.ntmps5
 go_wp2_with fail
 generalize (w.alloc (.cells #[.int .i64 oo.what, .int .i64 oo.root, .int .i64 oo.page, .int .i64 oo.kind, .bool oo.user, .int .i64 oo.g, .int .i64 oo.i, .int .u64 oo.v, .int .i64 oo.nn] 61)) = z0 at *
 generalize w.heap.size = ob at *
 refine (hHd _ (hE.new H0.1)).mono ?_; rintro e z1 ⟨rfl, y1⟩
 have H1 := H0.new y1
 clear H0 y1 hHd
 go_wp2_with fail
 refine (Made16_at (hP.self H1.1)).mono ?_; intro e z2 hMP
 unfold MadeP16 at hMP
 obtain ⟨wb, dd, gq, mp, q, hp, hb, t, rfl, HM⟩ := hMP
 have H := H1.merge HM
 clear H1 HM hP
 go_wp2_with fail
 refine (hGr _).mono ?_; rintro e z3 ⟨rfl, rfl⟩
 clear hGr
 go_wp2_with fail
 refine H.fMade.mono ?_; rintro e z4 ⟨fq, mq, rfl, H_⟩
 clear H
 have H := H_
 clear H_
 go_wp2_with fail
 refine (H.tNew 4 (by omega) (by omega)).mono ?_; rintro e z5 ⟨t2, rfl, H_⟩
 clear H
 have H := (((((H_.pick 0 rfl).pick 4 rfl).pick 4 rfl).pick 4 rfl).pick 4 rfl)
 clear H_
 have w_ := wdC_cells (H.pick 1 rfl).blk
 go_wp2_with fail
 refine (H.mmNew hp t2).mono ?_; rintro e z6 ⟨mm, rfl, H_⟩
 clear H w_
 have H := ((((((H_.pick 5 rfl).pick 1 rfl).pick 5 rfl).pick 5 rfl).pick 5 rfl).pick 5 rfl)
 clear H_
 go_wp2_with fail
 replace H : SepC w _ (gdT dd gq mp q hp hb t 40 4 8 8 gl16 (opsF (gd0 (madeG P)) (L.take 0)) :: blkT wb 51 (wdC hp gq q t dd) :: blkT fq 202 (flC gq mq q dd) :: mapT mq gl16 :: blkT mm 156 (mmC t2 hp) :: tlbT t2 4 [] :: blkT ob 61 #[.int .i64 oo.what, .int .i64 oo.root, .int .i64 oo.page, .int .i64 oo.kind, .bool oo.user, .int .i64 oo.g, .int .i64 oo.i, .int .u64 oo.v, .int .i64 oo.nn] :: []) := H
 go_loopw [12] (fun s_ wr => ∃ k : Nat, k ≤ m ∧ s_ = .int .i64 k ∧ SepC w wr (gdT dd gq mp q hp hb t 40 4 8 8 gl16 (opsF (gd0 (madeG P)) (L.take k)) :: blkT wb 51 (wdC hp gq q t dd) :: blkT fq 202 (flC gq mq q dd) :: mapT mq gl16 :: blkT mm 156 (mmC t2 hp) :: tlbT t2 4 [] :: blkT ob 61 #[.int .i64 oo.what, .int .i64 oo.root, .int .i64 oo.page, .int .i64 oo.kind, .bool oo.user, .int .i64 oo.g, .int .i64 oo.i, .int .u64 oo.v, .int .i64 oo.nn] :: [])) (fun s_ _ => m - (intOf s_).toNat)
 case atStart => exact ⟨0, Nat.zero_le _, rfl, H⟩
 clear H
 obtain ⟨k, hk, rfl, H⟩ := hrel
 by_cases hlt : k < m
 ·have hltz : (k : Int) < (m : Int) := by omega
  obtain ⟨b, off, o, rfl, ho, c0, c1, c2, c3, c4, c5, c6, c7, c8⟩ := fopE_cells (hl.new H.1).sl hlt
  have hD := H.fDo o (hl.at_ ho) (FdO.take L k (FdO.made P)) (hE.new H.1)
  rw [← opsF_take ho] at hD
  simp only [Fst.cs] at hD
  generalize (doF (opsF (gd0 (madeG P)) (L.take k)) o).2 = R_ at hD
  clear H
  go_wp2_with fail
  refine hD.mono ?_; rintro e w2 ⟨A9, c9, rfl, H2⟩
  clear hD c0 c1 c2 c3 c4 c5 c6 c7 c8
  go_wp2_with fail
  go_roundw
  case rel => exact ⟨k + 1, by omega, by go_num, H2.tail⟩
  case measure => simp [intOf]; omega
 have ek : k = m := by omega
 subst ek
 have hltz : ¬ (k : Int) < (k : Int) := by omega
 rw [List.take_of_length_le (Nat.le_of_eq hmm.out)] at H
 have hd : FdO (opsF (gd0 (madeG P)) L) := FdO.opsF L (FdO.made P)
 obtain ⟨d, hd_⟩ : ∃ d, opsF (gd0 (madeG P)) L = d := ⟨_, rfl⟩
 rw [hd_] at H hd
 clear hd_ hltz hlt hk hmm hm9 hl
 have hv := view_run d oo.root
 obtain ⟨vx, vr, vb, hv1, hv2, hv3⟩ := hv
 obtain ⟨had, hhad⟩ : ∃ had, (pgOf d.s.L ⟨oo.root, 3, 0⟩).isSome = had := ⟨_, rfl⟩
 rw [hhad] at hv2 hv3
 obtain ⟨tf, htf⟩ : ∃ tf, findV d.s.L ⟨oo.root, 3, 0⟩ = tf := ⟨_, rfl⟩
 rw [htf] at hv2
 obtain ⟨D, A1, bi, how, hfo, hdD, han⟩ := anew_seen hd oo.root oo.page oo.kind oo.user
 have cK := fun {z : World} {l' : List Th} (H' : SepC w z (gdT dd gq mp q hp hb t 40 4 8 8 gl16 (d) :: l')) => H'.kFind ⟨oo.root, 3, 0⟩
 simp only [htf, hhad, Ky.cs] at cK
 clear htf hhad
 have cM := fun (k : Nat) {z : World} {l' : List Th} (H' : SepC w z (gdT dd gq mp q hp hb t 40 4 8 8 gl16 (d) :: blkT mm 156 (mmC t2 hp) :: l')) => H'.gMWalk tf (k : Int)
 have cD := fun {z : World} {l' : List Th} (H' : SepC w z (gdT dd gq mp q hp hb t 40 4 8 8 gl16 (d) :: blkT wb 51 (wdC hp gq q t dd) :: blkT fq 202 (flC gq mq q dd) :: mapT mq gl16 :: l')) => H'.fDo ⟨0, oo.root, oo.page, oo.kind, oo.user, oo.g, oo.i, oo.v, oo.nn⟩ hoo hd (hE.new H'.1)
 simp only [do_zero, hfo, Fst.cs] at cD
 clear hfo hoo
 replace hv1 := Lib.hid hv1; replace hv2 := Lib.hid hv2; replace hv3 := Lib.hid hv3; replace han := Lib.hid han
 go_upto_region 17 with fail
 rw [z90 vx]
 have H1 := H.alloc (arrN 512 (fsI vx 0)) 90
 generalize wr.alloc (.cells (arrN 512 (fsI vx 0)) 90) = w1 at *
 generalize wr.heap.size = ga at *
 go_upto_region 18 with fail
 rw [z91 vr]
 have H2 := H1.alloc (arrN 1536 (fsR vr 0)) 91
 generalize w1.alloc (.cells (arrN 1536 (fsR vr 0)) 91) = w2 at *
 generalize w1.heap.size = gb at *
 go_upto_region 19 with fail
 rw [z92 vb]
 have H3 := H2.alloc (arrN 512 (fsB vb 0)) 92
 generalize w2.alloc (.cells (arrN 512 (fsB vb 0)) 92) = w3 at *
 generalize w2.heap.size = gc at *
 clear H1 H2 H
 have H : SepC w w3 (gdT dd gq mp q hp hb t 40 4 8 8 gl16 (d) :: blkT wb 51 (wdC hp gq q t dd) :: blkT fq 202 (flC gq mq q dd) :: mapT mq gl16 :: blkT mm 156 (mmC t2 hp) :: tlbT t2 4 [] :: blkT ob 61 #[.int .i64 oo.what, .int .i64 oo.root, .int .i64 oo.page, .int .i64 oo.kind, .bool oo.user, .int .i64 oo.g, .int .i64 oo.i, .int .u64 oo.v, .int .i64 oo.nn] :: blkT ga 90 (arrN 512 (fsI vx 0)) :: blkT gb 91 (arrN 1536 (fsR vr 0)) :: blkT gc 92 (arrN 512 (fsB vb 0)) :: []) := ((((((((((H3.pick 0 rfl).pick 1 rfl).pick 2 rfl).pick 9 rfl).pick 9 rfl).pick 9 rfl).pick 9 rfl).pick 9 rfl).pick 9 rfl).pick 9 rfl)
 clear H3
 have hld : ∀ z, Chg [] w3 z → (z.cell? ⟨wb, 2, none⟩ = some (.pointer (some ⟨q, 0, none⟩)) ∧ z.cell? ⟨ob, 1, none⟩ = some (.int .i64 oo.root)) := fun z hz => by
  have H2 := H.new hz
  exact ⟨(wdC_cells (H2.pick 1 rfl).blk).2.2.1, (H2.pick 6 rfl).blk.cell 1⟩
 have HH := H.new (Chg.refl [] w3).drew
 refine wp_region_noPanic ?_
 refine wp_region_held_drew (S := (fun w' => Chg [] w3 w')) (by kernel_rfl) ?_ (fun hHeld => ?_)
 ·exact (Chg.refl [] w3).drew
 refine tq 0 77 _ ?_
 refine tq 1 78 _ ?_
 refine tq 2 79 _ ?_
 (refine tk 3 80 ?_ ?_ ?_; rotate_left; · (intro w hSw; (try dsimp only at hSw); obtain ⟨l0_, l1_⟩ := hld _ hSw; go_simp; (try with_reducible rfl)))
 (try simp only [Act.put, qI, qO, qU])
 refine tq 4 81 _ ?_
 (refine tk 5 82 ?_ ?_ ?_; rotate_left; · (intro w hSw; (try dsimp only at hSw); obtain ⟨l0_, l1_⟩ := hld _ hSw; go_simp; (try with_reducible rfl)))
 refine tq 6 83 _ ?_
 (try simp only [Act.put, qI, qO, qU])
 refine rdy 7 fun K hK => ?_
 go_simp
 (go_at_call 38; refine (cK HH).mono ?_; rintro e u1 ⟨rfl, y_⟩; replace HH := HH.new y_)
 refine hK.out _ _ (by (try dsimp only); exact hHeld.trans y_ (by simp)) (fun hHeld => ?_)
 clear hK K
 (try simp only [Act.put, qI, qO, qU])
 refine tq 8 76 _ ?_
 refine tq 9 85 _ ?_
 (try simp only [Act.put, qI, qO, qU])
 refine tq 10 86 _ ?_
 refine tq 11 16 _ ?_
 refine tq 12 17 _ ?_
 (try simp only [Act.put, qI, qO, qU])
 refine wpAnyH_done (by kernel_rfl) ?_ _
 refine NoPanic.normal ?_
 clear hHeld hld H cK
 have H := HH
 clear HH
 go_upto_block 2 with fail
 go_cut [] from 87 to 110 (fun wx => SepC w wx (gdT dd gq mp q hp hb t 40 4 8 8 gl16 (d) :: blkT wb 51 (wdC hp gq q t dd) :: blkT fq 202 (flC gq mq q dd) :: mapT mq gl16 :: blkT mm 156 (mmC t2 hp) :: tlbT t2 4 [] :: blkT ob 61 #[.int .i64 oo.what, .int .i64 oo.root, .int .i64 oo.page, .int .i64 oo.kind, .bool oo.user, .int .i64 oo.g, .int .i64 oo.i, .int .u64 oo.v, .int .i64 oo.nn] :: blkT ga 90 (arrN 512 (fsI vx 512)) :: blkT gb 91 (arrN 1536 (fsR vr 512)) :: blkT gc 92 (arrN 512 (fsB vb 512)) :: []))
 case first =>
  go_wp2_with fail
  go_loopw [18] (fun s18 wr => ∃ j : Nat, j ≤ 512 ∧ (had = false → j = 0) ∧ s18 = .int .i64 j ∧ SepC w wr (gdT dd gq mp q hp hb t 40 4 8 8 gl16 (d) :: blkT wb 51 (wdC hp gq q t dd) :: blkT fq 202 (flC gq mq q dd) :: mapT mq gl16 :: blkT mm 156 (mmC t2 hp) :: tlbT t2 4 [] :: blkT ob 61 #[.int .i64 oo.what, .int .i64 oo.root, .int .i64 oo.page, .int .i64 oo.kind, .bool oo.user, .int .i64 oo.g, .int .i64 oo.i, .int .u64 oo.v, .int .i64 oo.nn] :: blkT ga 90 (arrN 512 (fsI vx j)) :: blkT gb 91 (arrN 1536 (fsR vr j)) :: blkT gc 92 (arrN 512 (fsB vb j)) :: [])) (fun s18 _ => 512 - (intOf s18).toNat)
  case atStart => exact ⟨0, by omega, fun _ => rfl, rfl, H⟩
  clear H
  obtain ⟨j, hj, hj0, rfl, H⟩ := hrel
  by_cases hlt : j < 512 ∧ had = true
  ·obtain ⟨hlt, rfl⟩ := hlt
   have hltz : (j : Int) < 512 := by omega
   obtain ⟨e1_, e2_, e3_⟩ := hv2.out rfl j
   have cMj := fun {z : World} {l' : List Th} (H' : SepC w z (gdT dd gq mp q hp hb t 40 4 8 8 gl16 (d) :: blkT mm 156 (mmC t2 hp) :: l')) => cM j H'
   simp only [e1_, e2_, e3_, Rg.cs] at cMj
   clear e1_ e2_ e3_
   have nx1 := fsI_next vx j; have nx2 := fsR_next vr j; have nx3 := fsB_next vb j
   go_wp2_with fail
   refine (cMj ((((((((((H.pick 9 rfl).pick 9 rfl).pick 9 rfl).pick 9 rfl).pick 9 rfl).pick 8 rfl).pick 8 rfl).pick 8 rfl).pick 9 rfl).pick 9 rfl)).mono ?_; rintro e z1 ⟨rfl, y_⟩
   have HX := (H.new y_).alloc #[.bool (vr j).w, .bool (vr j).u, .bool (vr j).x] 54
   clear cMj y_ H
   go_upto_region 24 with fail
   generalize z1.alloc (.cells #[.bool (vr j).w, .bool (vr j).u, .bool (vr j).x] 54) = z2 at *
   generalize z1.heap.size = rb at *
   have HA := HX.pick 8 rfl
   clear HX
   have ea := HA.blk.cell j; have fa := HA.blk.frozen j
   rw [arrN_get hlt] at ea
   obtain ⟨va, hva⟩ : ∃ va, (if j < j then vx j else 0) = va := ⟨_, rfl⟩
   replace ea : z2.cell? ⟨ga, j, none⟩ = some (.int .i64 va) := by rw [← hva]; exact ea
   clear hva
   go_upto_region 25 with fail
   have HB := HA.cellSet j (.int .i64 (vx j))
   rw [nx1] at HB
   clear HA ea fa nx1
   generalize z2.setCell ⟨ga, j, none⟩ (.int .i64 (vx j)) = z3 at *
   have HC := HB.pick 9 rfl
   clear HB
   have eb0 := HC.blk.cell (j * 3); have eb1 := HC.blk.cell (j * 3 + 1); have eb2 := HC.blk.cell (j * 3 + 2); have fb0 := HC.blk.frozen (j * 3); have fb1 := HC.blk.frozen (j * 3 + 1); have fb2 := HC.blk.frozen (j * 3 + 2)
   rw [arrN_get (show j * 3 < 1536 by omega)] at eb0; rw [arrN_get (show j * 3 + 1 < 1536 by omega)] at eb1; rw [arrN_get (show j * 3 + 2 < 1536 by omega)] at eb2
   obtain ⟨b0_, hb0⟩ : ∃ b0_, fsR vr j (j * 3) = .bool b0_ := ⟨_, rfl⟩
   obtain ⟨b1_, hb1⟩ : ∃ b1_, fsR vr j (j * 3 + 1) = .bool b1_ := ⟨_, rfl⟩
   obtain ⟨b2_, hb2⟩ : ∃ b2_, fsR vr j (j * 3 + 2) = .bool b2_ := ⟨_, rfl⟩
   rw [hb0] at eb0; rw [hb1] at eb1; rw [hb2] at eb2
   clear hb0 hb1 hb2
   have br := (HC.pick 2 rfl).blk
   have r0 := br.cell 0; have r1 := br.cell 1; have r2 := br.cell 2
   simp only [qA, qZ, qS] at r0 r1 r2
   clear br
   go_upto_region 26 with fail
   have HD := ((HC.cellSet (j * 3) (.bool (vr j).w)).cellSet (j * 3 + 1) (.bool (vr j).u)).cellSet (j * 3 + 2) (.bool (vr j).x)
   rw [nx2] at HD
   clear HC eb0 eb1 eb2 fb0 fb1 fb2 r0 r1 r2 nx2
   generalize ((z3.setCell ⟨gb, j * 3, none⟩ (.bool (vr j).w)).setCell ⟨gb, j * 3 + 1, none⟩ (.bool (vr j).u)).setCell ⟨gb, j * 3 + 2, none⟩ (.bool (vr j).x) = z4 at *
   have HE := HD.pick 10 rfl
   clear HD
   have ec := HE.blk.cell j; have fc := HE.blk.frozen j
   rw [arrN_get hlt] at ec
   obtain ⟨vc_, hvc⟩ : ∃ vc_, fsB vb j j = .bool vc_ := ⟨_, rfl⟩
   rw [hvc] at ec
   clear hvc
   have HF := HE.cellSet j (.bool (vb j))
   rw [nx3] at HF
   clear HE nx3
   go_wp2_with fail
   go_roundw
   case rel => exact ⟨j + 1, by omega, fun h_ => (by cases h_), by go_num, ((((((((((((HF.pick 0 rfl).pick 1 rfl).pick 2 rfl).pick 10 rfl).pick 10 rfl).pick 10 rfl).pick 10 rfl).pick 10 rfl).pick 10 rfl).pick 10 rfl).pick 10 rfl)).tail⟩
   case measure => simp [intOf]; omega
  cases had
  ·have ej := hj0 rfl
   subst ej
   obtain ⟨g1_, g2_, g3_⟩ := fs_none (hv3.out rfl) 512
   rw [g1_, g2_, g3_] at H
   clear g1_ g2_ g3_
   go_wp2_with fail
   go_meet
   exact H
  have ej : j = 512 := by have h_ : ¬ j < 512 := (fun h => hlt ⟨h, rfl⟩); omega
  subst ej
  have hltz : ¬ ((512 : Nat) : Int) < 512 := by omega
  clear hlt
  go_wp2_with fail
  go_meet
  exact H
 clear H hv2 hv3 cM
 have H := hcut
 clear hcut
 have HO := H.pick 6 rfl
 clear H
 have oo0 := HO.blk.cell 0; have of0 := HO.blk.frozen 0
 simp only [qA, qZ] at oo0
 go_upto_region 28 with fail
 have HP := HO.cellSet 0 (.int .i64 0)
 simp only [qI, qO] at HP
 clear HO oo0 of0
 generalize World.setCell _ ⟨ob, 0, none⟩ (.int .i64 0) = z5 at *
 have bo_ := HP.blk
 have q0 := bo_.cell 0; have q1 := bo_.cell 1; have q2 := bo_.cell 2; have q3 := bo_.cell 3; have q4 := bo_.cell 4; have q5 := bo_.cell 5; have q6 := bo_.cell 6; have q7 := bo_.cell 7; have q8 := bo_.cell 8
 simp only [qA, qZ, qS] at q0 q1 q2 q3 q4 q5 q6 q7 q8
 clear bo_
 have H : SepC w z5 (gdT dd gq mp q hp hb t 40 4 8 8 gl16 (d) :: blkT wb 51 (wdC hp gq q t dd) :: blkT fq 202 (flC gq mq q dd) :: mapT mq gl16 :: blkT mm 156 (mmC t2 hp) :: tlbT t2 4 [] :: blkT ob 61 #[.int .i64 0, .int .i64 oo.root, .int .i64 oo.page, .int .i64 oo.kind, .bool oo.user, .int .i64 oo.g, .int .i64 oo.i, .int .u64 oo.v, .int .i64 oo.nn] :: blkT ga 90 (arrN 512 (fsI vx 512)) :: blkT gb 91 (arrN 1536 (fsR vr 512)) :: blkT gc 92 (arrN 512 (fsB vb 512)) :: []) := ((((((((((HP.pick 9 rfl).pick 9 rfl).pick 9 rfl).pick 3 rfl).pick 9 rfl).pick 9 rfl).pick 9 rfl).pick 9 rfl).pick 9 rfl).pick 9 rfl)
 clear HP
 go_wp2_with fail
 refine (cD H).mono ?_; rintro e z6 ⟨Aan, can, rfl, H_⟩
 clear cD H q0 q1 q2 q3 q4 q5 q6 q7 q8
 rcases han.out with ⟨rfl, rfl⟩ | ⟨rfl, hfi, hall⟩
 ·simp only [List.length_nil] at *
  go_wp2_with fail
  go_ret
  exact ⟨rfl, H_.1⟩
 clear han
 have hcd := fun (j : Nat) (hj : j < 512) => anew_cond (D := D) hv1.out hall hj
 clear hall hv1
 obtain ⟨NA, hNA⟩ : ∃ NA, A1.length = NA := ⟨_, rfl⟩
 rw [hNA] at H_
 have hAn := fun (n : Int) => in_run A1 n
 rw [hNA] at hAn
 replace hcd := Lib.hid hcd; replace hAn := Lib.hid hAn
 have cK2 := fun {z : World} {l' : List Th} (H' : SepC w z (gdT dd gq mp q hp hb t 40 4 8 8 gl16 (D) :: l')) => H'.kFind ⟨oo.root, 3, 0⟩
 simp only [hfi, Ky.cs] at cK2
 clear hfi
 obtain ⟨tf2, htf2⟩ : ∃ tf2, findV D.s.L ⟨oo.root, 3, 0⟩ = tf2 := ⟨_, rfl⟩
 rw [htf2] at cK2
 have hcd2 := hcd.out
 clear hcd
 simp only [htf2] at hcd2
 replace hcd2 := Lib.hid hcd2
 clear htf2
 have cM2 := fun (k : Nat) {z : World} {l' : List Th} (H' : SepC w z (gdT dd gq mp q hp hb t 40 4 8 8 gl16 (D) :: blkT mm 156 (mmC t2 hp) :: l')) => H'.gMWalk tf2 (k : Int)
 go_upto_region 31 with fail
 try rw [hNA]
 replace hNA := Lib.hid hNA
 have H : SepC w z6 (gdT dd gq mp q hp hb t 40 4 8 8 gl16 (D) :: blkT wb 51 (wdC hp gq q t dd) :: blkT fq 202 (flC gq mq q dd) :: mapT mq gl16 :: blkT mm 156 (mmC t2 hp) :: tlbT t2 4 [] :: blkT ob 61 #[.int .i64 0, .int .i64 oo.root, .int .i64 oo.page, .int .i64 oo.kind, .bool oo.user, .int .i64 oo.g, .int .i64 oo.i, .int .u64 oo.v, .int .i64 oo.nn] :: blkT ga 90 (arrN 512 (fsI vx 512)) :: blkT gb 91 (arrN 1536 (fsR vr 512)) :: blkT gc 92 (arrN 512 (fsB vb 512)) :: ownT (numE .i64) 3 (.slice Aan NA can) A1 :: []) := (((((((((((H_.pick 0 rfl).pick 10 rfl).pick 10 rfl).pick 10 rfl).pick 10 rfl).pick 10 rfl).pick 10 rfl).pick 10 rfl).pick 10 rfl).pick 10 rfl).pick 10 rfl)
 clear H_
 have hld : ∀ z, Chg [] z6 z → (z.cell? ⟨wb, 2, none⟩ = some (.pointer (some ⟨q, 0, none⟩)) ∧ z.cell? ⟨ob, 1, none⟩ = some (.int .i64 oo.root)) := fun z hz => by
  have H2 := H.new hz
  exact ⟨(wdC_cells (H2.pick 1 rfl).blk).2.2.1, (H2.pick 6 rfl).blk.cell 1⟩
 have HH := H.new (Chg.refl [] z6).drew
 refine wp_region_noPanic ?_
 refine wp_region_held_drew (S := (fun w' => Chg [] z6 w')) (by kernel_rfl) ?_ (fun hHeld => ?_)
 ·exact (Chg.refl [] z6).drew
 refine tq 0 129 _ ?_
 refine tq 1 130 _ ?_
 (try simp only [Act.put, qI, qO, qU])
 refine tq 2 131 _ ?_
 (refine tk 3 132 ?_ ?_ ?_; rotate_left; · (intro w hSw; (try dsimp only at hSw); obtain ⟨l0_, l1_⟩ := hld _ hSw; go_simp; (try with_reducible rfl)))
 refine tq 4 133 _ ?_
 (refine tk 5 134 ?_ ?_ ?_; rotate_left; · (intro w hSw; (try dsimp only at hSw); obtain ⟨l0_, l1_⟩ := hld _ hSw; go_simp; (try with_reducible rfl)))
 (try simp only [Act.put, qI, qO, qU])
 refine tq 6 135 _ ?_
 (try simp only [Act.put, qI, qO, qU])
 refine rdy 7 fun K hK => ?_
 go_simp
 (go_at_call 38; refine (cK2 HH).mono ?_; rintro e u1 ⟨rfl, y_⟩; replace HH := HH.new y_)
 refine hK.out _ _ (by (try dsimp only); exact hHeld.trans y_ (by simp)) (fun hHeld => ?_)
 clear hK K
 (try simp only [Act.put, qI, qO, qU])
 refine tq 8 128 _ ?_
 refine tq 9 137 _ ?_
 refine tq 10 138 _ ?_
 refine tq 11 16 _ ?_
 (try simp only [Act.put, qI, qO, qU])
 refine tq 12 17 _ ?_
 (try simp only [Act.put, qI, qO, qU])
 refine wpAnyH_done (by kernel_rfl) ?_ _
 refine NoPanic.normal ?_
 clear hHeld hld H cK2
 have H := HH
 clear HH
 go_wp2_with fail
 go_loopw [25] (fun s25 wr => ∃ j : Nat, j ≤ 512 ∧ s25 = .int .i64 j ∧ SepC w wr (gdT dd gq mp q hp hb t 40 4 8 8 gl16 (D) :: blkT wb 51 (wdC hp gq q t dd) :: blkT fq 202 (flC gq mq q dd) :: mapT mq gl16 :: blkT mm 156 (mmC t2 hp) :: tlbT t2 4 [] :: blkT ob 61 #[.int .i64 0, .int .i64 oo.root, .int .i64 oo.page, .int .i64 oo.kind, .bool oo.user, .int .i64 oo.g, .int .i64 oo.i, .int .u64 oo.v, .int .i64 oo.nn] :: blkT ga 90 (arrN 512 (fsI vx 512)) :: blkT gb 91 (arrN 1536 (fsR vr 512)) :: blkT gc 92 (arrN 512 (fsB vb 512)) :: ownT (numE .i64) 3 (.slice Aan NA can) A1 :: [])) (fun s25 _ => 512 - (intOf s25).toNat)
 case atStart => exact ⟨0, by omega, rfl, H⟩
 clear H
 obtain ⟨j, hj, rfl, H⟩ := hrel
 by_cases hlt : j < 512
 ·have hltz : (j : Int) < 512 := by omega
  obtain ⟨x, r, tb, e1_, e2_, e3_, hc_⟩ := hcd2.out j hlt
  have cMj := fun {z : World} {l' : List Th} (H' : SepC w z (gdT dd gq mp q hp hb t 40 4 8 8 gl16 (D) :: blkT mm 156 (mmC t2 hp) :: l')) => cM2 j H'
  simp only [e1_, e2_, e3_, Rg.cs] at cMj
  clear e1_ e2_ e3_
  replace hc_ := Lib.hid hc_
  go_wp2_with fail
  refine (cMj (((((((((((H.pick 10 rfl).pick 10 rfl).pick 10 rfl).pick 10 rfl).pick 10 rfl).pick 10 rfl).pick 9 rfl).pick 9 rfl).pick 9 rfl).pick 10 rfl).pick 10 rfl)).mono ?_; rintro e z1 ⟨rfl, y_⟩
  have HX := (H.new y_).alloc #[.bool r.w, .bool r.u, .bool r.x] 54
  clear cMj y_ H
  go_upto_region 36 with fail
  generalize z1.alloc (.cells #[.bool r.w, .bool r.u, .bool r.x] 54) = z2 at *
  generalize z1.heap.size = rb at *
  have hld : ∀ z, Chg [] z2 z → (z.cell? ⟨gc, j, none⟩ = some (.bool (vb j)) ∧ z.cell? ⟨ga, j, none⟩ = some (.int .i64 (vx j)) ∧ (z.cell? ⟨gb, j * 3, none⟩ = some (.bool (vr j).w) ∧ z.cell? ⟨gb, j * 3 + 1, none⟩ = some (.bool (vr j).u) ∧ z.cell? ⟨gb, j * 3 + 2, none⟩ = some (.bool (vr j).x)) ∧ z.cell? ⟨rb, 0, none⟩ = some (.bool r.w) ∧ z.cell? ⟨rb, 1, none⟩ = some (.bool r.u) ∧ z.cell? ⟨rb, 2, none⟩ = some (.bool r.x)) := fun z hz => by
   have H2 := HX.new hz
   obtain ⟨a1_, a2_⟩ := fs_at vx vb hlt
   obtain ⟨b1_, b2_, b3_⟩ := fsR_at vr hlt
   have g_ := (H2.pick 9 rfl).blk
   exact ⟨((H2.pick 10 rfl).blk.cell j).trans a2_, ((H2.pick 8 rfl).blk.cell j).trans a1_, ⟨(g_.cell (j * 3)).trans b1_, (g_.cell (j * 3 + 1)).trans b2_, (g_.cell (j * 3 + 2)).trans b3_⟩, H2.blk.cell 0, H2.blk.cell 1, H2.blk.cell 2⟩
  have cU := fun z => RUnder_any r (vr j) z
  simp only [Rg.cs] at cU
  have hc2_ := hc_.out
  clear hc_
  generalize vb j = fb at *
  generalize vx j = xv at *
  generalize vr j = rv at *
  generalize under r rv = ub at *
  replace hc2_ := Lib.hid hc2_
  replace hld := Lib.hid hld
  go_cut [174] from 154 to 174 (fun cv wx => ∃ b : Bool, cv = .bool b ∧ (b = false → (j : Int) ∈ A1) ∧ SepC w wx (blkT rb 54 #[.bool r.w, .bool r.u, .bool r.x] :: gdT dd gq mp q hp hb t 40 4 8 8 gl16 (D) :: blkT wb 51 (wdC hp gq q t dd) :: blkT fq 202 (flC gq mq q dd) :: mapT mq gl16 :: blkT mm 156 (mmC t2 hp) :: tlbT t2 4 [] :: blkT ob 61 #[.int .i64 0, .int .i64 oo.root, .int .i64 oo.page, .int .i64 oo.kind, .bool oo.user, .int .i64 oo.g, .int .i64 oo.i, .int .u64 oo.v, .int .i64 oo.nn] :: blkT ga 90 (arrN 512 (fsI vx 512)) :: blkT gb 91 (arrN 1536 (fsR vr 512)) :: blkT gc 92 (arrN 512 (fsB vb 512)) :: ownT (numE .i64) 3 (.slice Aan NA can) A1 :: []))
  case first =>
   cases tb
   ·have HH := HX.new (Chg.refl [] z2).drew
    refine wp_region_noPanic ?_
    refine wp_region_held_drew (S := (fun w' => Chg [] z2 w')) (by kernel_rfl) ?_ (fun hHeld => ?_)
    ·exact (Chg.refl [] z2).drew
    refine tq 0 154 _ ?_
    refine tq 1 155 _ ?_
    refine tq 2 156 _ ?_
    (refine tko 3 157 ?_)
    (try simp only [Act.put, qI, qO, qU])
    (refine tko 4 158 ?_)
    (refine tko 5 159 ?_)
    (refine tko 6 160 ?_)
    (refine tko 7 161 ?_)
    (try simp only [Act.put, qI, qO, qU])
    (refine tko 8 162 ?_)
    (refine tko 9 163 ?_)
    (refine tko 10 164 ?_)
    (refine tko 11 165 ?_)
    (try simp only [Act.put, qI, qO, qU])
    (refine tko 12 166 ?_)
    (refine tko 13 167 ?_)
    (refine tko 14 168 ?_)
    (refine tko 15 169 ?_)
    (try simp only [Act.put, qI, qO, qU])
    (refine tko 16 170 ?_)
    (refine tko 17 171 ?_)
    (refine tko 18 172 ?_)
    (refine tko 19 173 ?_)
    (try simp only [Act.put, qI, qO, qU])
    refine tq 20 174 _ ?_
    (try simp only [Act.put, qI, qO, qU])
    refine wpAnyH_done (by kernel_rfl) ?_ _
    refine NoPanic.normal ?_
    clear hHeld
    go_wp2_with fail
    go_meet
    exact ⟨true, rfl, (fun h_ => by cases h_), HH⟩
   cases fb
   ·have HH := HX.new (Chg.refl [] z2).drew
    refine wp_region_noPanic ?_
    refine wp_region_held_drew (S := (fun w' => Chg [] z2 w')) (by kernel_rfl) ?_ (fun hHeld => ?_)
    ·exact (Chg.refl [] z2).drew
    refine tq 0 154 _ ?_
    refine tq 1 155 _ ?_
    refine tq 2 156 _ ?_
    refine tq 3 157 _ ?_
    (try simp only [Act.put, qI, qO, qU])
    refine tq 4 158 _ ?_
    (refine tk 5 159 ?_ ?_ ?_; rotate_left; · (intro w hSw; (try dsimp only at hSw); obtain ⟨l0_, l1_, ⟨l2_, l3_, l4_⟩, l5_, l6_, l7_⟩ := hld.out _ hSw; go_simp; (try with_reducible rfl)))
    refine tq 6 160 _ ?_
    (refine tko 7 161 ?_)
    (try simp only [Act.put, qI, qO, qU])
    (refine tko 8 162 ?_)
    (refine tko 9 163 ?_)
    (refine tko 10 164 ?_)
    (refine tko 11 165 ?_)
    (try simp only [Act.put, qI, qO, qU])
    refine tq 12 166 _ ?_
    refine tq 13 167 _ ?_
    (refine tko 14 168 ?_)
    (refine tko 15 169 ?_)
    (try simp only [Act.put, qI, qO, qU])
    (refine tko 16 170 ?_)
    (refine tko 17 171 ?_)
    (refine tko 18 172 ?_)
    refine tq 19 173 _ ?_
    (try simp only [Act.put, qI, qO, qU])
    refine tq 20 174 _ ?_
    (try simp only [Act.put, qI, qO, qU])
    refine wpAnyH_done (by kernel_rfl) ?_ _
    refine NoPanic.normal ?_
    clear hHeld
    go_wp2_with fail
    go_meet
    exact ⟨false, rfl, (fun _ => hc2_.out (by simp)), HH⟩
   by_cases hx : xv = x
   ·subst hx
    have HH := HX.new (Chg.refl [] z2).drew
    refine wp_region_noPanic ?_
    refine wp_region_held_drew (S := (fun w' => Chg [] z2 w')) (by kernel_rfl) ?_ (fun hHeld => ?_)
    ·exact (Chg.refl [] z2).drew
    refine tq 0 154 _ ?_
    refine tq 1 155 _ ?_
    refine tq 2 156 _ ?_
    refine tq 3 157 _ ?_
    (try simp only [Act.put, qI, qO, qU])
    refine tq 4 158 _ ?_
    (refine tk 5 159 ?_ ?_ ?_; rotate_left; · (intro w hSw; (try dsimp only at hSw); obtain ⟨l0_, l1_, ⟨l2_, l3_, l4_⟩, l5_, l6_, l7_⟩ := hld.out _ hSw; go_simp; (try with_reducible rfl)))
    refine tq 6 160 _ ?_
    refine tq 7 161 _ ?_
    (try simp only [Act.put, qI, qO, qU])
    refine tq 8 162 _ ?_
    (refine tk 9 163 ?_ ?_ ?_; rotate_left; · (intro w hSw; (try dsimp only at hSw); obtain ⟨l0_, l1_, ⟨l2_, l3_, l4_⟩, l5_, l6_, l7_⟩ := hld.out _ hSw; go_simp; (try with_reducible rfl)))
    refine tq 10 164 _ ?_
    refine tq 11 165 _ ?_
    (try simp only [Act.put, qI, qO, qU])
    refine tq 12 166 _ ?_
    refine tq 13 167 _ ?_
    (refine tk 14 168 ?_ ?_ ?_; rotate_left; · (intro w hSw; (try dsimp only at hSw); obtain ⟨l0_, l1_, ⟨l2_, l3_, l4_⟩, l5_, l6_, l7_⟩ := hld.out _ hSw; go_simp; (try with_reducible rfl)))
    refine tq 15 169 _ ?_
    (try simp only [Act.put, qI, qO, qU])
    refine tq 16 170 _ ?_
    (refine tk 17 171 ?_ ?_ ?_; rotate_left; · (intro w hSw; (try dsimp only at hSw); obtain ⟨l0_, l1_, ⟨l2_, l3_, l4_⟩, l5_, l6_, l7_⟩ := hld.out _ hSw; go_simp; (try with_reducible rfl)))
    (try simp only [Act.put, qI, qO, qU])
    refine rdy 18 fun K hK => ?_
    go_simp
    (go_at_call 41; refine (cU _).mono ?_; rintro e u1 ⟨rfl, y_⟩; replace HH := HH.new y_)
    refine hK.out _ _ (by (try dsimp only); exact hHeld.trans y_ (by simp)) (fun hHeld => ?_)
    clear hK K
    (try simp only [Act.put, qI, qO, qU])
    refine tq 19 173 _ ?_
    refine tq 20 174 _ ?_
    (try simp only [Act.put, qI, qO, qU])
    refine wpAnyH_done (by kernel_rfl) ?_ _
    refine NoPanic.normal ?_
    clear hHeld
    go_wp2_with fail
    go_meet
    exact ⟨ub, rfl, (fun h_ => hc2_.out (by simp [h_])), HH⟩
   have hxb : (xv == x) = false := by simpa using hx
   have hxd : decide (xv = x) = false := decide_eq_false hx
   have HH := HX.new (Chg.refl [] z2).drew
   refine wp_region_noPanic ?_
   refine wp_region_held_drew (S := (fun w' => Chg [] z2 w')) (by kernel_rfl) ?_ (fun hHeld => ?_)
   ·exact (Chg.refl [] z2).drew
   refine tq 0 154 _ ?_
   refine tq 1 155 _ ?_
   (try simp only [Act.put, qI, qO, qU])
   refine tq 2 156 _ ?_
   refine tq 3 157 _ ?_
   refine tq 4 158 _ ?_
   (refine tk 5 159 ?_ ?_ ?_; rotate_left; · (intro w hSw; (try dsimp only at hSw); obtain ⟨l0_, l1_, ⟨l2_, l3_, l4_⟩, l5_, l6_, l7_⟩ := hld.out _ hSw; go_simp; (try with_reducible rfl)))
   (try simp only [Act.put, qI, qO, qU])
   refine tq 6 160 _ ?_
   refine tq 7 161 _ ?_
   refine tq 8 162 _ ?_
   (refine tk 9 163 ?_ ?_ ?_; rotate_left; · (intro w hSw; (try dsimp only at hSw); obtain ⟨l0_, l1_, ⟨l2_, l3_, l4_⟩, l5_, l6_, l7_⟩ := hld.out _ hSw; go_simp; (try with_reducible rfl)))
   (try simp only [Act.put, qI, qO, qU])
   refine tq 10 164 _ ?_
   refine tq 11 165 _ ?_
   refine tq 12 166 _ ?_
   refine tq 13 167 _ ?_
   (try simp only [Act.put, qI, qO, qU])
   (refine tko 14 168 ?_)
   (refine tko 15 169 ?_)
   (refine tko 16 170 ?_)
   (refine tko 17 171 ?_)
   (try simp only [Act.put, qI, qO, qU])
   (refine tko 18 172 ?_)
   refine tq 19 173 _ ?_
   refine tq 20 174 _ ?_
   (try simp only [Act.put, qI, qO, qU])
   refine wpAnyH_done (by kernel_rfl) ?_ _
   refine NoPanic.normal ?_
   clear hHeld
   go_wp2_with fail
   go_meet
   exact ⟨false, rfl, (fun _ => hc2_.out (by simp [hx])), HH⟩
  obtain ⟨b, rfl, hb_, H9⟩ := hcut
  clear HX hld cU hc2_
  have H := H9.tail
  clear H9
  replace hb_ := Lib.hid hb_
  cases b
  ·obtain ⟨tj, ht0, hts, htn⟩ := hAn.out (j : Int)
   have htn2 := htn (hb_.out rfl)
   clear htn
   replace ht0 := Lib.hid ht0; replace hts := Lib.hid hts; replace htn2 := Lib.hid htn2
   go_wp2_with fail
   go_loopw [29, 30] (fun s29 s30 wr => ∃ i : Nat, i ≤ NA ∧ s30 = .int .i64 i ∧ s29 = .bool (tj i) ∧ SepC w wr (gdT dd gq mp q hp hb t 40 4 8 8 gl16 (D) :: blkT wb 51 (wdC hp gq q t dd) :: blkT fq 202 (flC gq mq q dd) :: mapT mq gl16 :: blkT mm 156 (mmC t2 hp) :: tlbT t2 4 [] :: blkT ob 61 #[.int .i64 0, .int .i64 oo.root, .int .i64 oo.page, .int .i64 oo.kind, .bool oo.user, .int .i64 oo.g, .int .i64 oo.i, .int .u64 oo.v, .int .i64 oo.nn] :: blkT ga 90 (arrN 512 (fsI vx 512)) :: blkT gb 91 (arrN 1536 (fsR vr 512)) :: blkT gc 92 (arrN 512 (fsB vb 512)) :: ownT (numE .i64) 3 (.slice Aan NA can) A1 :: [])) (fun _ s30 _ => NA - (intOf s30).toNat)
   case atStart => exact ⟨0, by omega, rfl, by rw [ht0.out], H⟩
   clear H
   obtain ⟨i, hi, rfl, rfl, H⟩ := hrel
   have hcap := (H.pick 10 rfl).own.cap
   by_cases hil : i < NA
   ·have hiz : (i : Int) < (NA : Int) := by omega
    obtain ⟨b_, off_, x_, rfl, _, hx_, hc_⟩ := SlN.get (H.pick 10 rfl).own.slg hil
    have hti := hts.out i x_ hx_
    generalize tj i = ti at *
    replace hti := Lib.hid hti
    clear hx_
    have hn9 := Nat.le_trans hcap.1 hcap.2.1
    clear hcap
    cases ti
    ·obtain ⟨eb, heb⟩ : ∃ eb, (x_ == (j : Int)) = eb := ⟨_, rfl⟩
     go_wp2_with fail
     go_roundw
     case rel => exact ⟨i + 1, by omega, by go_num, by rw [hti.out, heb]; rfl, H⟩
     case measure => simp [intOf]; omega
    go_wp2_with fail
    go_roundw
    case rel => exact ⟨i + 1, by omega, by go_num, by rw [hti.out]; rfl, H⟩
    case measure => simp [intOf]; omega
   have ei : i = NA := by omega
   subst ei
   have hiz : ¬ (i : Int) < (i : Int) := by omega
   have ht9 := htn2.out
   generalize tj i = ti at *
   subst ht9
   go_wp2_with fail
   go_roundw
   case rel => exact ⟨j + 1, by omega, by go_num, H⟩
   case measure => simp [intOf]; omega
  go_wp2_with fail
  go_roundw
  case rel => exact ⟨j + 1, by omega, by go_num, H⟩
  case measure => simp [intOf]; omega
 obtain rfl : j = 512 := by omega
 have hltz : ¬ ((512 : Nat) : Int) < 512 := by omega
 go_wp2_with fail
 go_ret
 exact ⟨rfl, H.1⟩
theorem FillAnew_walk (A : Option Addr) (n c : Nat) (P : List Pu) (B : Option Addr) (m e0 : Nat) (L : List Fst) (o : { o : Fst // o.Wf }) (w : World) (hP : SlP w A n P) (hl : FopsIn w B m L) (hE : ErrIn w) :
  Calls Tryz.prog 5 #[.slice A n c, .slice B m e0, .agg o.1.cs] w fun e w' => e = .returned (.bool true) ∧ Chg [] w w' := lawFillAnew_any A n c P B m e0 L o.1 w hP hl hE o.2
end Go.Proofs.YtmbgepafpcbakaaGreatDoor
