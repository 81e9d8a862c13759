/-
 GdT, GdA, GdB, GdI, GdC, GdD in one text.
-/
import Derived.Test.YtmbgepafpcbakaaGreatDoorGS3K
import Derived.Test.YtmbgepafpcbakaaGreatDoorTlbsK
import Derived.Test.YtmbgepafpcbakaaGreatDoorGPlK
import Derived.Test.YtmbgepafpcbakaaGreatDoorG7K
import Derived.Test.YtmbgepafpcbakaaGreatDoorG3K
import Derived.Deep.CutRange
namespace Go.Proofs.YtmbgepafpcbakaaGreatDoor
open Go.RowKit Go.Maps
def SepN (w : World) : List Th → List Nat → Prop
 | [], U => U = []
 | P :: l, U => ∃ S V, U = S ++ V ∧ P.at_ w S ∧ (∀ i ∈ S, i ∉ V) ∧ SepN w l V
section
variable {w0 w w' : World} {l : List Th} {U : List Nat}
theorem SepN.lt : ∀ {l : List Th} {U : List Nat}, SepN w l U → ∀ i ∈ U, i < w.heap.size
 | [], _, h, i, hi => by rw [show _ = [] from h] at hi; simp at hi
 | P :: l, U, ⟨S, V, e, hp, _, hr⟩, i, hi => by
  rw [e, List.mem_append] at hi
  rcases hi with hi | hi
  ·exact P.lt hp i hi
  exact SepN.lt hr i hi
theorem SepN.chg {T : List Nat} : ∀ {l : List Th} {U : List Nat}, SepN w l U → Chg T w w' → (∀ i ∈ U, i ∉ T) → SepN w' l U
 | [], _, h, _, _ => h
 | P :: l, U, ⟨S, V, e, hp, hn, hr⟩, hc, hd => ⟨S, V, e, P.chg hp hc (fun i hi => hd i (by rw [e]; simp [hi])), hn, SepN.chg hr hc (fun i hi => hd i (by rw [e]; simp [hi]))⟩
theorem Sep.toN : ∀ {l : List Th} {U : List Nat}, Sep w0 w l U → SepN w l U
 | [], _, h => h
 | _ :: _, _, ⟨S, V, e, hp, hn, hr⟩ => ⟨S, V, e, hp, fun i hi => (hn i hi).2, Sep.toN hr⟩
theorem Sep.cut : ∀ {l1 : List Th} {l2 : List Th} {U : List Nat}, Sep w0 w (l1 ++ l2) U → ∃ S V, U = S ++ V ∧ Sep w0 w l1 S ∧ (∀ i ∈ S, w0.heap.size ≤ i ∧ i ∉ V) ∧ Sep w0 w l2 V
 | [], _, U, h => ⟨[], U, rfl, rfl, by simp, h⟩
 | P :: l1, l2, U, ⟨S, V, e, hp, hn, hr⟩ => by
  obtain ⟨S', V', e', h1, h2, h3⟩ := Sep.cut (l1 := l1) hr
  subst e; subst e'
  refine ⟨S ++ S', V', by rw [List.append_assoc], ⟨S, S', rfl, hp, fun i hi => ⟨(hn i hi).1, fun h => (hn i hi).2 (by simp [h])⟩, h1⟩, fun i hi => ?_, h3⟩
  rw [List.mem_append] at hi
  rcases hi with hi | hi
  ·exact ⟨(hn i hi).1, fun h => (hn i hi).2 (by simp [h])⟩
  exact h2 i hi
theorem SepN.join : ∀ {l1 : List Th} {l2 : List Th} {S V : List Nat}, SepN w l1 S → (∀ i ∈ S, w0.heap.size ≤ i ∧ i ∉ V) → Sep w0 w l2 V → Sep w0 w (l1 ++ l2) (S ++ V)
 | [], _, S, V, h, _, h2 => by rw [show S = [] from h]; exact h2
 | P :: l1, l2, _, V, ⟨S1, S2, e, hp, hn, hr⟩, hd, h2 => by
  subst e
  refine ⟨S1, S2 ++ V, by rw [List.append_assoc], hp, fun i hi => ⟨(hd i (by simp [hi])).1, fun h => ?_⟩, SepN.join hr (fun i hi => hd i (by simp [hi])) h2⟩
  rw [List.mem_append] at h
  rcases h with h | h
  ·exact hn i hi h
  exact (hd i (by simp [hi])).2 h
def packT (φ : Prop) (F : Value → List Th) : Th where
 at_ w U := φ ∧ ∃ v, SepN w (F v) U
 lt := by rintro w U ⟨_, v, h⟩; exact h.lt
 chg := by rintro w w' U T ⟨hp, v, h⟩ hc hn; exact ⟨hp, v, h.chg hc hn⟩
theorem SepC.open_ {φ : Prop} {F : Value → List Th} (H : SepC w0 w (packT φ F :: l)) : φ ∧ ∃ v, SepC w0 w (F v ++ l) := by
 obtain ⟨h0, U, S, V, e, ⟨hp, v, hs⟩, hn, hr⟩ := H
 exact ⟨hp, v, h0, S ++ V, hs.join hn hr⟩
theorem SepC.shut {φ : Prop} {F : Value → List Th} (hp : φ) (v : Value) (H : SepC w0 w (F v ++ l)) : SepC w0 w (packT φ F :: l) := by
 obtain ⟨h0, U, h⟩ := H
 obtain ⟨S, V, e, h1, h2, h3⟩ := h.cut
 exact ⟨h0, S ++ V, S, V, rfl, ⟨hp, v, h1.toN⟩, h2, h3⟩
variable {P0 P1 P2 P3 P4 P5 : Th}
theorem SepC.at1 (H : SepC w0 w (P0 :: P1 :: l)) : SepC w0 w (P1 :: P0 :: l) := H.pick 1 rfl
theorem SepC.at2 (H : SepC w0 w (P0 :: P1 :: P2 :: l)) : SepC w0 w (P2 :: P0 :: P1 :: l) := H.pick 2 rfl
theorem SepC.bk2 (H : SepC w0 w (P2 :: P0 :: P1 :: l)) : SepC w0 w (P0 :: P1 :: P2 :: l) := (H.pick 2 rfl).pick 2 rfl
theorem SepC.at3 (H : SepC w0 w (P0 :: P1 :: P2 :: P3 :: l)) : SepC w0 w (P3 :: P0 :: P1 :: P2 :: l) := H.pick 3 rfl
theorem SepC.bk3 (H : SepC w0 w (P3 :: P0 :: P1 :: P2 :: l)) : SepC w0 w (P0 :: P1 :: P2 :: P3 :: l) := ((H.pick 3 rfl).pick 3 rfl).pick 3 rfl
theorem SepC.at4 (H : SepC w0 w (P0 :: P1 :: P2 :: P3 :: P4 :: l)) : SepC w0 w (P4 :: P0 :: P1 :: P2 :: P3 :: l) := H.pick 4 rfl
theorem SepC.at5 (H : SepC w0 w (P0 :: P1 :: P2 :: P3 :: P4 :: P5 :: l)) : SepC w0 w (P5 :: P0 :: P1 :: P2 :: P3 :: P4 :: l) := H.pick 5 rfl
end
def mapT (p : Nat) (L : List Int) : Th := ⟨fun w S => GAt w S p L, fun h => h.lt, fun h hc hn => h.chg hc hn⟩
def gdC (gq mp q t : Nat) (v : Value) : Array Value := #[.pointer (some ⟨gq, 0, none⟩), .pointer (some ⟨mp, 0, none⟩), .pointer (some ⟨q, 0, none⟩), .pointer (some ⟨t, 0, none⟩), v]
def guC (mp hp : Nat) : Array Value := #[.pointer (some ⟨mp, 0, none⟩), .pointer (some ⟨hp, 0, none⟩)]
def i64B (g : Int) : Prop := -9223372036854775808 ≤ g ∧ g ≤ 9223372036854775807
structure GdIn (n a m : Nat) (L : List Int) (d : Gd) : Prop where
 ok : GdOk n a m L d
 wd : WdW d.s.W
 rg : ∀ g ∈ d.l, i64B g
section
variable {w0 w w' : World} {dd gq mp q hp hb t n a m most : Nat} {L : List Int} {v : Value} {s : Sr} {T : List Ht} {ll : List Int} {l : List Th} {d : Gd}
theorem wordS_rg (x : Slt) (f : Int) : 0 ≤ wordS x f ∧ wordS x f < 18446744073709551616 := by
 unfold wordS
 split
 ·omega
 have := putV_lt (entS x f); omega
theorem WdW.set (h : WdW s.W) (p i : Int) (x : Slt) (f : Int) : WdW (setS n s p i x f).W := by
 rw [setS_W]; exact h.setW_ n p i _ (wordS_rg x f)
theorem WdW.clear (h : WdW s.W) (p i : Int) : WdW (clearS n s p i).W := by
 unfold clearS; split
 ·exact h.set _ _ _ _
 exact h
theorem WdW.child (h : WdW s.W) (p i c : Int) (r : Rg) : WdW (childS n s p i c r).W := by
 unfold childS; split
 ·exact h.set _ _ _ _
 exact h
theorem WdW.leaf (h : WdW s.W) (p i g x : Int) (r : Rg) : WdW (leafS n s p i g x r).W := by
 unfold leafS; split
 ·exact h.set _ _ _ _
 exact h
theorem WdW.upd (h : WdW s.W) (u : Up) (hu : ∀ f i y, u f i = some y → 0 ≤ y.2 ∧ y.2 < 18446744073709551616) : WdW (updS s u).W := by
 rw [updS_W]
 intro x hx
 unfold updW at hx
 rw [List.mem_mapIdx] at hx
 obtain ⟨j, hj, rfl⟩ := hx
 have h0 := h _ (List.getElem_mem hj)
 split
 ·unfold updV
  cases e : u ((j / 8 : Nat) : Int) (j % 8) with
  | none => exact h0
  | some y => exact hu _ _ y e
 exact h0
theorem WdW.wipe (h : WdW s.W) (c : Int → Nat → Bool) : WdW (wipeS s c).W :=
 h.upd _ fun f i y e => by
  unfold wipeU at e
  split at e
  ·injection e with e; subst e; simp
  cases e
theorem WdW.all_ : ∀ (xs W : List Int) (o : Nat), WdW W → WdW xs → WdW (setAll W o xs)
 | [], _, _, h, _ => h
 | x :: r, W, o, h, hx => by
  rw [setAll]
  refine WdW.all_ r _ _ (fun y hy => ?_) (fun y hy => hx y (by simp [hy]))
  rcases List.mem_or_eq_of_mem_set hy with hy | rfl
  ·exact h y hy
  exact hx _ (by simp)
theorem WdW.fill (h : WdW s.W) (f : Int) : WdW (fillW n s.W f (zeros 8)) := by
 unfold fillW; split
 ·exact WdW.all_ _ _ _ h (WdW.zeros_ 8)
 exact h
theorem WdW.make (h : WdW s.W) (k : Ky) : WdW (makeS n s k).W := by
 unfold makeS; split
 ·exact WdW.fill (s := s) h _
 exact h
theorem WdW.drop (h : WdW s.W) (p : Int) : WdW (dropS s p).W := by
 unfold dropS; split
 ·exact h.wipe _
 exact h
theorem WdW.forbid (h : WdW s.W) (g : Int) : WdW (updS s (forbidU L s g)).W :=
 h.upd _ fun f i y e => by
  obtain ⟨x, _, _, _, _, _, h5⟩ := forbidU_some e
  rw [h5]; exact wordS_rg _ _
end
section
variable {w0 w w' : World} {dd gq mp q hp hb t n a m most : Nat} {L : List Int} {v : Value} {s : Sr} {T : List Ht} {ll : List Int} {l : List Th} {d : Gd} {W : List Int}
theorem SepC.tAll (H : SepC w0 w (tlbT t most T :: l)) : Calls Tryz.prog 114 #[.pointer (some ⟨t, 0, none⟩)] w fun e w' => e = .returned (.tuple #[]) ∧ SepC w0 w' (tlbT t most [] :: l) :=
 H.callV fun S _ hS _ _ => (TAll_at S t most T w hS).mono fun _ _ ⟨S', he, y, h, hG⟩ => ⟨he, S', h, y, hG⟩
theorem SepC.mHost (H : SepC w0 w (mapT mp L :: l)) (g : Int) : Calls Tryz.prog 84 #[.pointer (some ⟨mp, 0, none⟩), .int .i64 g] w fun e w' => e = .returned (.tuple #[.int .i64 (atV L g), .bool (atB L.length g)]) ∧ w = w' := by
 obtain ⟨S, h, _⟩ := H.fst
 exact GHost_at S mp L g w h
theorem SepC.guIn (H : SepC w0 w (blkT dd 144 (gdC gq mp q t (v)) :: ownT (numE .i64) 3 (v) (ll) :: stT q hp hb n a m (s) :: tlbT t most (T) :: mapT mp L :: blkT gq 169 (guC mp hp) :: l)) (hi : InH n L) : ∃ S, GuIn w gq S mp L hp hb n s.W := by
 obtain ⟨S, h, _⟩ := H.at4.fst
 exact ⟨S, H.at5.blk, h, H.at2.smem, hi⟩
theorem SepC.gGet (H : SepC w0 w (blkT dd 144 (gdC gq mp q t (v)) :: ownT (numE .i64) 3 (v) (ll) :: stT q hp hb n a m (s) :: tlbT t most (T) :: mapT mp L :: blkT gq 169 (guC mp hp) :: l)) (hi : InH n L) (g i : Int) : Calls Tryz.prog 153 #[.pointer (some ⟨gq, 0, none⟩), .int .i64 g, .int .i64 i] w fun e w' => e = .returned (.tuple #[.int .u64 (getG n s.W L g i), .bool (hasG n L g i)]) ∧ w = w' := by
 obtain ⟨S, h⟩ := H.guIn hi
 exact GuGet_at gq S mp L hp hb n s.W g i w h
theorem SrOk.guest (h : SrOk n a m s) (_hi : InH n L) (ha : ∀ h ∈ L, ¬ ((a : Int) ≤ h ∧ h < a + m)) (g i x : Int) : SrOk n a m ⟨s.L, s.fr, setG n s.W L g i x⟩ := by
 refine ⟨h.le, h.n256, by rw [setG_len]; exact h.len, h.nd, h.mem, h.cnt, h.keys, h.right, h.eight, h.kinds, fun q hq j y hy => ?_⟩
 obtain ⟨f, h0, h1, h2, h3⟩ := h.words q hq j y hy
 refine ⟨f, h0, h1, h2, ?_⟩
 show (setG n s.W L g i x)[_]? = _
 unfold setG
 split
 ·rename_i hg
  unfold setW
  split
  ·rename_i hw
   rw [List.getElem?_set_ne, h3]
   unfold atB at hg; rw [decide_eq_true_eq] at hg
   unfold hasW at hw; rw [decide_eq_true_eq] at hw
   have hm : atV L g ∈ L := by
    unfold atV; rw [if_pos (by unfold atB; rw [decide_eq_true_eq]; exact hg), List.getD_eq_getElem?_getD, List.getElem?_eq_getElem (show g.toNat < L.length by omega)]
    exact List.getElem_mem _
   have h4 := ha _ hm
   have h5 := h.inL hq
   have h6 := (List.getElem?_eq_some_iff.1 hy).1
   rw [h.eight q hq] at h6
   omega
  exact h3
 exact h3
theorem StX.wrote {w w' : World} {fp mp' : Nat} {FS B : List Nat} {v : Value} (h : StX w q hp hb n a m s fp mp' FS v B) (y : Chg [hb] w w') (hm : MemAt w' hp hb n W) : StX w' q hp hb n a m ⟨s.L, s.fr, W⟩ fp mp' FS v B := by
 obtain ⟨n1, n2, n3, n4, n5, n6, n7, n8, n9, n10, n11⟩ := h.ne
 exact ⟨y.blk h.st (by simp; exact fun e => n6 e.symm), h.fl.chg y (fun i hi hm => by simp at hm; subst hm; exact h.hs.2 hi), h.mp_.chg y (by simp; exact fun e => n8 e.symm), h.od.chg y (fun i hi hm => by simp at hm; exact (n2 i hi).2.2.2.2 hm), h.bl, h.nb,
  fun i p b hp hb' => y.blk (h.pg i p b hp hb') (by simp; exact fun e => n10 (e ▸ List.mem_of_getElem? hb')), hm, h.nd, h.ge, h.e8, h.fs, h.hs⟩
def setGd (n : Nat) (L : List Int) (s : Sr) (g i x : Int) : Sr := ⟨s.L, s.fr, setG n s.W L g i x⟩
theorem SepC.gSet (H : SepC w0 w (blkT dd 144 (gdC gq mp q t (v)) :: ownT (numE .i64) 3 (v) (ll) :: stT q hp hb n a m (s) :: tlbT t most (T) :: mapT mp L :: blkT gq 169 (guC mp hp) :: l)) (hi : InH n L) (ha : ∀ h ∈ L, ¬ ((a : Int) ≤ h ∧ h < a + m)) (g i x : Int) : Calls Tryz.prog 52 #[.pointer (some ⟨gq, 0, none⟩), .int .i64 g, .int .i64 i, .int .u64 x] w fun e w' => e = .returned (.bool (hasG n L g i)) ∧ SepC w0 w' (blkT dd 144 (gdC gq mp q t (v)) :: ownT (numE .i64) 3 (v) (ll) :: stT q hp hb n a m (setGd n L s g i x) :: tlbT t most (T) :: mapT mp L :: blkT gq 169 (guC mp hp) :: l) := by
 obtain ⟨S, h⟩ := H.guIn hi
 have hc := GuSet_at gq S mp L hp hb n s.W g i x w h
 refine (H.at2.stCall (s1 := setGd n L s g i x) (fun ok => ok.guest hi ha g i x) fun fp mp' FS v B hx => ?_).mono fun _ _ ⟨he, H'⟩ => ⟨he, H'.bk2⟩
 exact hc.mono fun _ _ ⟨he, y, hg⟩ => ⟨he, FS, v, B, hx.wrote y hg.hm, y.weak (fun i _ hi => by simp at hi; simp [hi]), fun _ h => .inl h⟩
set_option maxHeartbeats 1000000 in
theorem Index_any (A : Option Addr) (n c : Nat) (M : List Int) (x : Int) (w : World) (h : SlG (numE .i64) w A n M) :
  Calls Tryz.prog 217 #[.slice A n c, .int .i64 x] w fun e w' => (∃ k : Int, e = .returned (.int .i64 k) ∧ decide (0 ≤ k) = M.contains x) ∧ w' = w := by
 have hl := h.len
 have hle := h.le
 replace hl := Lib.hid hl
 go_enter Tryz.func217, Tryz.ntmps217
 go_wp2_with fail
 go_loopw [8] (fun s8 wr => ∃ k : Nat, k ≤ n ∧ s8 = .int .i64 k ∧ Aside (wr = w) ∧ Aside (∀ j, j < k → M.getD j 0 ≠ x)) (fun s8 _ => n - (intOf s8).toNat)
 case atStart => exact ⟨0, Nat.zero_le _, rfl, rfl, fun j hj => absurd hj (Nat.not_lt_zero _)⟩
 obtain ⟨k, hk, rfl, hW, hN⟩ := hrel
 obtain rfl := hW.out
 clear hW
 by_cases hlt : k < n
 ·have hltz : (k : Int) < (n : Int) := by omega
  obtain ⟨b, off, y, rfl, _, hy, hc⟩ := SlN.get h hlt
  have hyd : M.getD k 0 = y := by rw [List.getD_eq_getElem?_getD, hy]; rfl
  replace hyd := Lib.hid hyd; replace hy := Lib.hid hy
  by_cases hxy : x = y
  ·have hb : (x == y) = true := by simpa using hxy
   replace hxy := Lib.hid hxy
   go_wp2_with fail
   go_ret
   refine ⟨⟨k, rfl, ?_⟩, rfl⟩
   rw [decide_eq_true (by omega), eq_comm, List.contains_iff_mem, hxy.out]
   exact List.mem_of_getElem? hy.out
  have hb : (x == y) = false := by simpa using hxy
  replace hxy := Lib.hid hxy
  go_wp2_with fail
  go_roundw
  case rel =>
   refine ⟨k + 1, by omega, by go_num, (by first | exact trivial | exact rfl), (show Aside _ from fun j hj => ?_)⟩
   by_cases e : j = k
   ·subst e; rw [hyd.out]; exact fun e => hxy.out e.symm
   exact hN.out j (by omega)
  case measure => simp [intOf]; omega
 have hltz : ¬ (k : Int) < (n : Int) := by omega
 have : k = n := by omega
 subst this
 go_wp2_with fail
 go_ret
 refine ⟨⟨-1, rfl, ?_⟩, rfl⟩
 refine ⟨fun h => absurd h (by omega), fun hm => ?_⟩
 obtain ⟨j, hj, e⟩ := List.getElem_of_mem hm
 exact absurd (by rw [List.getD_eq_getElem?_getD, List.getElem?_eq_getElem hj]; exact e) (hN.out j (by have := hl.out; omega))
set_option maxHeartbeats 400000 in
theorem Contains_any (A : Option Addr) (n c : Nat) (M : List Int) (x : Int) (w : World) (h : SlG (numE .i64) w A n M) :
  Calls Tryz.prog 169 #[.slice A n c, .int .i64 x] w fun e w' => e = .returned (.bool (M.contains x)) ∧ w' = w := by
 have hI := Index_any A n c M x w h
 generalize M.contains x = b at *
 clear h
 go_enter Tryz.func169, Tryz.ntmps169
 go_wp2_with fail
 refine hI.mono ?_; rintro e w2 ⟨⟨k, rfl, hk⟩, rfl⟩
 clear hI
 replace hk := Lib.hid hk
 go_wp2_with fail
 go_ret
 exact ⟨by rw [← hk.out]; rfl, rfl⟩
set_option maxHeartbeats 400000 in
theorem SepC.gLoose (H : SepC w0 w (blkT dd 144 (gdC gq mp q t (v)) :: ownT (numE .i64) 3 (v) (ll) :: stT q hp hb n a m (s) :: tlbT t most (T) :: mapT mp L :: blkT gq 169 (guC mp hp) :: l)) (g : Int) : Calls Tryz.prog 96 #[.pointer (some ⟨dd, 0, none⟩), .int .i64 g] w fun e w' => e = .returned (.bool (ll.contains g)) ∧ w' = w := by
 have ho := H.at1.own
 have c4 := H.blk.cell 4
 unfold gdC at c4
 simp only [qA, qZ, qS] at c4
 obtain ⟨A, c, rfl, _, _⟩ := ho.form
 have hC := Contains_any A ll.length c ll g w ho.slg
 generalize ll.contains g = b at *
 generalize ll.length = k at *
 clear H ho
 go_enter Tryz.func96, Tryz.ntmps96
 go_wp2_with fail
 refine hC.mono ?_; rintro e w2 ⟨rfl, rfl⟩
 go_wp2_with fail
 go_ret
 exact ⟨rfl, rfl⟩
set_option maxHeartbeats 400000 in
theorem SepC.gList (H : SepC w0 w (blkT dd 144 (gdC gq mp q t (v)) :: ownT (numE .i64) 3 (v) (ll) :: stT q hp hb n a m (s) :: tlbT t most (T) :: mapT mp L :: blkT gq 169 (guC mp hp) :: l)) (hr : ∀ g ∈ ll, i64B g) (hn : ll.length ≤ 1000000) : Calls Tryz.prog 25 #[.pointer (some ⟨dd, 0, none⟩)] w fun e w' => ∃ A c, e = .returned (.slice A ll.length c) ∧ SepC w0 w' (ownT (numE .i64) 3 (.slice A ll.length c) ll :: blkT dd 144 (gdC gq mp q t (v)) :: ownT (numE .i64) 3 (v) (ll) :: stT q hp hb n a m (s) :: tlbT t most (T) :: mapT mp L :: blkT gq 169 (guC mp hp) :: l) := by
 have ho := H.at1.own
 have c4 := H.blk.cell 4
 unfold gdC at c4
 simp only [qA, qZ, qS] at c4
 obtain ⟨A, c, e, _, _⟩ := ho.form
 have hC := Clone_at A ll.length c ll w ((ownI_G.2 (e ▸ ho)).slk hr (by omega)) hn
 rw [e] at c4
 clear ho
 replace e := Lib.hid e
 generalize hk : ll.length = k at *
 replace hk := Lib.hid hk
 go_enter Tryz.func25, Tryz.ntmps25
 go_wp2_with fail
 refine hC.mono ?_; rintro e w2 ⟨u, rfl, y, hu, hg⟩
 go_wp2_with fail
 go_ret
 obtain ⟨A', c', e'⟩ := (ownI_G.1 hu).form
 have e1 := e'.1
 rw [hk.out] at e1
 subst e1
 exact ⟨A', c', rfl, H.lay y ⟨rfl, ownI_G.1 hu⟩ hg⟩
end
end Go.Proofs.YtmbgepafpcbakaaGreatDoor
namespace Go.Proofs.YtmbgepafpcbakaaGreatDoor
open Go.RowKit Go.Maps Go.Shelf
theorem SepC.cellSet {w0 w : World} {l : List Th} {g : Nat} {ty : TypeId} {cs : Array Value} (H : SepC w0 w (blkT g ty cs :: l)) (i : Nat) (u : Value) : SepC w0 (w.setCell ⟨g, i, none⟩ u) (blkT g ty (cs.setIfInBounds i u) :: l) :=
 H.step (S := [g]) (S' := [g]) (fun _ h => h.1) ((Chg.refl [g] w).setCell (p := ⟨g, i, none⟩) (by simp) u) ⟨rfl, H.blk.set_ i u⟩ fun i hi => .inl hi
section
variable {w0 w w' : World} {dd gq mp q hp hb t n a m most : Nat} {L : List Int} {v : Value} {s : Sr} {T : List Ht} {ll : List Int} {l : List Th} {d : Gd}
set_option maxHeartbeats 400000 in
theorem Tighten1_any (x : Int) (kb : Nat) (g : Int) (w : World) (h : Blk w kb 3 #[.int .i64 g]) :
  Calls Tryz.prog 178 #[.int .i64 x, .pointer (some ⟨kb, 0, none⟩)] w fun e w' => e = .returned (.bool (x == g)) ∧ Chg [] w w' := by
 have c0 := h.cell 0
 simp only [qA, qZ] at c0
 clear h
 go_enter Tryz.func178, Tryz.ntmps178
 go_wp2_with fail
 go_ret
 exact ⟨rfl, Chg.refl _ _⟩
set_option maxRecDepth 100000 in
set_option maxHeartbeats 1000000 in
theorem SepC.gTighten (H : SepC w0 w (blkT dd 144 (gdC gq mp q t (v)) :: ownT (numE .i64) 3 (v) (ll) :: stT q hp hb n a m (s) :: tlbT t most (T) :: mapT mp L :: blkT gq 169 (guC mp hp) :: l)) (g : Int) (hr : ∀ x ∈ ll, i64B x) : Calls Tryz.prog 112 #[.pointer (some ⟨dd, 0, none⟩), .int .i64 g] w fun e w' => e = .returned (.tuple #[]) ∧ ∃ v', SepC w0 w' (blkT dd 144 (gdC gq mp q t (v')) :: ownT (numE .i64) 3 (v') (ll.filter fun x => decide (x ≠ g)) :: stT q hp hb n a m (s) :: tlbT t most (T) :: mapT mp L :: blkT gq 169 (guC mp hp) :: l) := by
 have H1 := H.alloc #[.int .i64 g] 3
 have hb1 := H1.blk
 have c4 := (H1.pick 1 rfl).blk.cell 4
 unfold gdC at c4
 simp only [qA, qZ, qS] at c4
 have ho := (H1.pick 2 rfl).own
 have hnv : w.heap.size ∉ v.ownBlock.toList := fun hm => by have := H.at1.own.lt _ hm; omega
 have hdel := deleteI_any (fun x => x == g) 178 w.heap.size (enters_of Tryz.func178 (by kernel_rfl) rfl) v ll (w.alloc (.cells #[.int .i64 g] 3)) hr (fun x W yW => Tighten1_any x w.heap.size g W (hb1.chg_ yW hnv)) (ownI_G.2 ho)
 have hfl : ll.filter (fun h => !(h == g)) = ll.filter fun x => decide (x ≠ g) := by
  apply List.filter_congr
  intro x _
  by_cases e : x = g <;> simp [e]
 simp only [hfl] at hdel
 clear hfl hr ho hb1
 go_enter Tryz.func112, Tryz.ntmps112
 go_wp2_with fail
 generalize w.alloc (.cells #[.int .i64 g] 3) = w1 at *
 generalize w.heap.size = kb at *
 refine hdel.mono ?_; rintro e w2 ⟨v', rfl, y, ho, hbk⟩
 replace ho := ownI_G.1 ho
 obtain ⟨A', c', rfl, _, _⟩ := ho.form
 generalize (ll.filter fun x => decide (x ≠ g)).length = k' at *
 have H2 := (H1.pick 2 rfl).step (S := v.ownBlock.toList) (S' := (Value.slice A' k' c').ownBlock.toList) (P' := ownT (numE .i64) 3 (.slice A' k' c') (ll.filter fun x => decide (x ≠ g))) (fun _ h => h.1) y ⟨rfl, ho⟩ (by rw [hbk]; exact fun _ h => .inl h)
 have H3 := H2.pick 2 rfl
 have f4 := H3.blk.frozen 4
 have c5 := H3.blk.cell 4
 unfold gdC at c5
 simp only [qA, qZ, qS] at c5
 have H4 := H3.cellSet 4 (.slice A' k' c')
 clear hdel hnv c4 H1 H H2 H3
 go_wp2_with fail
 go_end0
 exact ⟨rfl, .slice A' k' c', (H4.pick 2 rfl).tail⟩
set_option maxHeartbeats 4000000 in
theorem Agrees_any (x : Slt) (e : Ent) (w : World) : Calls Tryz.prog 186 #[.agg x.cl.toArray, .agg e.cs] w fun z w' => z = .returned (.bool (agreeB x e)) ∧ Chg [] w w' := by
 obtain ⟨xk, xt, ⟨xw, xu, xx⟩⟩ := x
 obtain ⟨ep, ew, eu, ea, ed, es, en, eb, ef⟩ := e
 unfold agreeB
 simp only [Slt.cl, Ent.cs]
 go_enter Tryz.func186, Tryz.ntmps186
 go_wp2_with fail
 all_goals (go_ret; refine ⟨?_, ((Chg.refl [] w).alloc _).alloc _⟩; simp_all; try (cases en <;> cases xx <;> simp_all))
end
end Go.Proofs.YtmbgepafpcbakaaGreatDoor
namespace Go.Proofs.YtmbgepafpcbakaaGreatDoor
open Go.RowKit Go.Maps
theorem nodup_le : ∀ {l M : List Int}, l.Nodup → (∀ x ∈ l, x ∈ M) → l.length ≤ M.length
 | [], _, _, _ => by simp
 | x :: l, M, h, hm => by
  rw [List.nodup_cons] at h
  have hx := hm x (by simp)
  have := nodup_le (M := M.erase x) h.2 (fun y hy => (List.mem_erase_of_ne (fun e => h.1 (by rw [← e]; exact hy))).2 (hm y (by simp [hy])))
  rw [List.length_erase_of_mem hx] at this
  have := List.length_pos_of_mem hx
  simp only [List.length_cons]
  omega
section
variable {n a m : Nat} {L : List Int} {d : Gd} {s : Sr} {T : List Ht}
theorem GdIn.len (h : GdIn n a m L d) : d.l.length ≤ 256 := by
 have h1 := nodup_le (l := d.l) (M := d.s.L.map fun q => q.k.g) h.ok.nd (fun x hx => by
  obtain ⟨p, hp, _⟩ := h.ok.ls x hx
  obtain ⟨q, hq, _, _, hg⟩ := of_mem.1 (show p ∈ ofP d.s.L x by rw [hp]; simp)
  rw [← hg]; exact List.mem_map.2 ⟨q, hq, rfl⟩)
 rw [List.length_map] at h1
 have := h.ok.sr.le256
 omega
theorem GdIn.sub (h : GdIn n a m L d) {d' : Gd} (ok : GdOk n a m L d') (wd : WdW d'.s.W) (hl : ∀ g ∈ d'.l, g ∈ d.l) : GdIn n a m L d' := ⟨ok, wd, fun g hg => h.rg g (hl g hg)⟩
theorem GdIn.tight (h : GdIn n a m L d) (g : Int) : GdIn n a m L (tightG d g) := h.sub (h.ok.tight g) h.wd fun _ hx => (List.mem_filter.1 hx).1
theorem GdIn.forbid (h : GdIn n a m L d) (g : Int) : GdIn n a m L (forbidG L d g) := h.sub (h.ok.forbid g) (h.wd.forbid g) fun _ hx => hx
theorem GdIn.look (h : GdIn n a m L d) (g : Int) : GdIn n a m L (lookG n L d g) := by
 refine h.sub (h.ok.look g) ?_ fun x hx => by rw [look_loose] at hx; exact (List.mem_filter.1 hx).1
 unfold lookG; split
 ·exact WdW.wipe (h.wd.forbid g) _
 exact h.wd
theorem GdIn.looks : ∀ (l : List Int) {d : Gd}, GdIn n a m L d → GdIn n a m L (l.foldl (lookG n L) d)
 | [], _, h => h
 | g :: l, _, h => by rw [List.foldl_cons]; exact GdIn.looks l (h.look g)
theorem GdIn.zap (h : GdIn n a m L d) (p i : Int) : GdIn n a m L (zapG n d p i) := by
 refine h.sub (h.ok.zap p i) ?_ ?_
 ·unfold zapG; split
  ·exact h.wd.clear p i
  exact h.wd
 unfold zapG; split <;> exact fun _ hx => hx
theorem GdIn.zaps (i : Int) : ∀ (l : List Int) {d : Gd}, GdIn n a m L d → GdIn n a m L (l.foldl (fun d p => zapG n d p i) d)
 | [], _, h => h
 | p :: l, _, h => by rw [List.foldl_cons]; exact GdIn.zaps i l (h.zap p i)
theorem GdIn.word (h : GdIn n a m L d) (g i : Int) : GdIn n a m L (wordG n d g i) := GdIn.zaps i _ h
theorem GdIn.loosen (h : GdIn n a m L d) {g : Int} (hg : i64B g) : GdIn n a m L (loosenG d g) := by
 refine ⟨h.ok.loosen g, ?_, fun x hx => ?_⟩
 ·unfold loosenG; split <;> exact h.wd
 unfold loosenG at hx; split at hx
 ·rcases List.mem_append.1 hx with hx | hx
  ·exact h.rg x hx
  simp at hx; subst hx; exact hg
 exact h.rg x hx
theorem GdIn.pre (h : GdIn n a m L d) (k : Ky) : GdIn n a m L (preG n L d k) := by
 unfold preG; split
 ·exact h.look _
 exact h
theorem GdIn.made (h : GdIn n a m L d) {k : Ky} (hk : k.role = 0 → k.g ∉ d.l) : GdIn n a m L (makeD n L d k) := by
 refine h.sub (h.ok.made hk) ?_ ?_
 ·unfold makeD; split
  ·split
   ·exact WdW.forbid (h.wd.make k) _
   exact h.wd.make k
  exact h.wd
 unfold makeD; split
 ·split <;> exact fun _ hx => hx
 exact fun _ hx => hx
theorem GdIn.make (h : GdIn n a m L d) (k : Ky) : GdIn n a m L (makeG n L d k) := by
 unfold makeG; split
 ·exact h
 exact (h.pre k).made (h.ok.pre k).2
theorem GdIn.drop (h : GdIn n a m L d) (p : Int) : GdIn n a m L (dropG d p) := by
 refine h.sub (h.ok.drop p) ?_ ?_
 ·unfold dropG; split
  ·exact h.wd.drop p
  exact h.wd
 unfold dropG; split
 ·simp only; split
  ·exact fun _ hx => (List.mem_filter.1 hx).1
  exact fun _ hx => hx
 exact fun _ hx => hx
theorem set_of {p i f : Int} {x : Slt} (g : Int) : ofP (setS n s p i x f).L g = ofP s.L g := by rw [setS_L, of_setP]
theorem set_lev {p i f : Int} {x : Slt} (q : Int) : levP (setS n s p i x f).L q = levP s.L q := by rw [setS_L, lev_setP]
theorem GdIn.child (h : GdIn n a m L d) (p i c : Int) (r : Rg) : GdIn n a m L ⟨childS n d.s p i c r, d.T, d.l⟩ := by
 refine h.sub (h.ok.setS (h.ok.sr.child p i c r) (fun g => ?_) (fun q => ?_) d.T) (h.wd.child p i c r) fun _ hx => hx
 ·unfold childS; split
  ·exact set_of g
  rfl
 unfold childS; split
 ·exact set_lev q
 rfl
theorem GdIn.leaf (h : GdIn n a m L d) (p i g f : Int) (r : Rg) : GdIn n a m L ⟨leafS n d.s p i g f r, d.T, d.l⟩ := by
 refine h.sub (h.ok.setS (h.ok.sr.leaf p i g f r) (fun g => ?_) (fun q => ?_) d.T) (h.wd.leaf p i g f r) fun _ hx => hx
 ·unfold leafS; split
  ·exact set_of g
  rfl
 unfold leafS; split
 ·exact set_lev q
 rfl
theorem GdIn.guest (h : GdIn n a m L d) (g i x : Int) (hx : 0 ≤ x ∧ x < 18446744073709551616) : GdIn n a m L ⟨setGd n L d.s g i x, d.T, d.l⟩ := by
 refine h.sub (h.ok.setS (h.ok.sr.guest h.ok.map h.ok.ap g i x) (fun _ => rfl) (fun _ => rfl) d.T) ?_ fun _ hx => hx
 show WdW (setG n d.s.W L g i x)
 unfold setG; split
 ·exact h.wd.setW_ n _ _ _ hx
 exact h.wd
end
end Go.Proofs.YtmbgepafpcbakaaGreatDoor
namespace Go.Proofs.YtmbgepafpcbakaaGreatDoor
open Go.RowKit Go.Maps Go.Shelf
theorem atE_cells {w : World} {b o : Nat} {x : Int × Int} (h : atE.At w b o x) : w.cell? ⟨b, o, none⟩ = some (.int .i64 x.1) ∧ w.cell? ⟨b, o + 1, none⟩ = some (.int .i64 x.2) := ⟨h 0 _ rfl, h 1 _ rfl⟩
section
variable {w0 w w' : World} {dd gq mp q hp hb t n a m most : Nat} {L : List Int} {v : Value} {s : Sr} {T : List Ht} {ll : List Int} {l : List Th} {d : Gd}
set_option maxRecDepth 100000 in
set_option maxHeartbeats 8000000 in
theorem SepC.gForbid (H : SepC w0 w (blkT dd 144 (gdC gq mp q t (v)) :: ownT (numE .i64) 3 (v) (ll) :: stT q hp hb n a m (s) :: tlbT t most (T) :: mapT mp L :: blkT gq 169 (guC mp hp) :: l)) (hi : InH n L) (hp0 : 0 < n) (g : Int) : Calls Tryz.prog 116 #[.pointer (some ⟨dd, 0, none⟩), .int .i64 g] w fun e w' => e = .returned (.tuple #[]) ∧ SepC w0 w' (blkT dd 144 (gdC gq mp q t (v)) :: ownT (numE .i64) 3 (v) (ll) :: stT q hp hb n a m ((forbidG L ⟨s, T, ll⟩ g).s) :: tlbT t most ((forbidG L ⟨s, T, ll⟩ g).T) :: mapT mp L :: blkT gq 169 (guC mp hp) :: l) := by
 have hok := H.at2.sok
 have hN6 := hok.le256
 have hF := forbid_is (d := ⟨s, T, ll⟩) hok hi hp0 g
 simp only at hF
 obtain ⟨K, hK0, hKe, hKs, hKok⟩ : ∃ K : Nat → Gd, K 0 = ⟨s, T, ll⟩ ∧ K (toldP 2 g s.L).length = forbidG L ⟨s, T, ll⟩ g ∧ (∀ k x, (toldP 2 g s.L)[k]? = some x → K (k + 1) = fstepG n L g (K k) x) ∧ True := by
  refine ⟨fun k => ((toldP 2 g s.L).take k).foldl (fstepG n L g) ⟨s, T, ll⟩, rfl, ?_, fun k x hx => ?_, trivial⟩
  ·simp only [List.take_length]; exact hF
  have hk := (List.getElem?_eq_some_iff.1 hx).1
  simp only [List.take_succ_eq_append_getElem hk, List.foldl_append, (List.getElem?_eq_some_iff.1 hx).2]; rfl
 clear hF hKok
 have hrg : ∀ x ∈ toldP 2 g s.L, i64B x.1 := fun x hx => by
  obtain ⟨y, hy, _⟩ := (told_slot hok).1 hx
  obtain ⟨p_, hp_, _⟩ := slotP_has hy
  obtain ⟨h1, h2⟩ := pgAt_mem hp_
  have h3 := hok.inL h1
  have := hok.le; have := hok.n256
  unfold i64B; omega
 generalize forbidG L ⟨s, T, ll⟩ g = E at *
 have hLv := H.at2.sLeaves g
 have hHo := H.at4.mHost g
 obtain ⟨TT, hTT⟩ : ∃ TT, toldP 2 g s.L = TT := ⟨_, rfl⟩
 rw [hTT] at hLv hKe hKs hrg
 obtain ⟨N, hN⟩ : ∃ N, TT.length = N := ⟨_, rfl⟩
 rw [hN] at hLv hKe
 replace hK0 := Lib.hid hK0; replace hKe := Lib.hid hKe; replace hKs := Lib.hid hKs; replace hN := Lib.hid hN
 obtain ⟨h, hh⟩ : ∃ h, atV L g = h := ⟨_, rfl⟩
 rw [hh] at hHo
 replace hh := Lib.hid hh
 generalize atB L.length g = hb_ at *
 clear hTT hok
 have c1 := H.blk.cell 1; have c2 := H.blk.cell 2
 unfold gdC at c1 c2
 simp only [qA, qZ, qS] at c1 c2
 go_enter Tryz.func116, Tryz.ntmps116
 go_wp2_with fail
 refine hHo.mono ?_; rintro e w1 ⟨rfl, rfl⟩
 clear hHo
 go_wp2_with fail
 refine hLv.mono ?_; rintro e w2 ⟨A0, c0, rfl, H2⟩
 clear hLv
 have H3 : SepC w0 w2 (ownT atE 104 (.slice A0 N c0) TT :: blkT dd 144 (gdC gq mp q t (v)) :: ownT (numE .i64) 3 (v) (ll) :: stT q hp hb n a m (s) :: tlbT t most (T) :: mapT mp L :: blkT gq 169 (guC mp hp) :: l) := ((H2.pick 3 rfl).pick 3 rfl).pick 2 rfl
 clear H2 H c1 c2
 go_wp2_with fail
 go_loopw [26] (fun s26 wr => ∃ k : Nat, k ≤ N ∧ s26 = .int .i64 k ∧ SepC w0 wr (ownT atE 104 (.slice A0 N c0) TT :: blkT dd 144 (gdC gq mp q t (v)) :: ownT (numE .i64) 3 (v) (ll) :: stT q hp hb n a m ((K k).s) :: tlbT t most ((K k).T) :: mapT mp L :: blkT gq 169 (guC mp hp) :: l)) (fun s26 _ => N - (intOf s26).toNat)
 case atStart => exact ⟨0, Nat.zero_le _, rfl, by rw [hK0.out]; exact H3⟩
 obtain ⟨k, hk, rfl, H⟩ := hrel
 clear H3
 by_cases hlt : k < N
 ·have hltz : (k : Int) < (N : Int) := by omega
  have hcp := H.own.cap
  have hN9 : N ≤ 9223372036854775807 := by omega
  clear hcp
  obtain ⟨b_, off, x, rfl, _, hx, hat⟩ := H.own.slg.get hlt
  obtain ⟨x0, x1⟩ := atE_cells hat
  simp only [show atE.k = 2 from rfl] at x0 x1
  have hst := hKs.out k x hx
  have hxr := hrg x (List.mem_of_getElem? hx)
  obtain ⟨xf, xi⟩ := x
  simp only at x0 x1 hxr
  replace hst := Lib.hid hst
  clear hat hx
  have Hb := H.alloc #[.int .i64 xf, .int .i64 xi] 104
  have cS := fun {z : World} {l' : List Th} (H' : SepC w0 z (stT q hp hb n a m (K k).s :: l')) => H'.sSlot xf xi hxr
  rw [show slotV (K k).s.L xf xi = slV (K k).s.L (xf, xi) from rfl] at cS
  obtain ⟨y, hy⟩ : ∃ y, slV (K k).s.L (xf, xi) = y := ⟨_, rfl⟩
  rw [hy] at cS
  replace hy := Lib.hid hy
  obtain ⟨kd, to_, ⟨rw_, ru, rx⟩⟩ := y
  simp only [Slt.cl] at cS
  generalize (slotP (K k).s.L xf xi).isSome = is_ at *
  go_upto_region 4 with fail
  generalize wr.alloc (.cells #[.int .i64 xf, .int .i64 xi] 104) = u0 at *
  generalize wr.heap.size = ga at *
  clear H x0 x1
  have hl3 : ∀ z, Chg [] u0 z → z.cell? ⟨dd, 2, none⟩ = some (.pointer (some ⟨q, 0, none⟩)) := fun z hz => ((Hb.new hz).pick 2 rfl).blk.cell 2
  have hl5 : ∀ z, Chg [] u0 z → z.cell? ⟨ga, 0, none⟩ = some (.int .i64 xf) := fun z hz => (Hb.new hz).blk.cell 0
  have hl7 : ∀ z, Chg [] u0 z → z.cell? ⟨ga, 1, none⟩ = some (.int .i64 xi) := fun z hz => (Hb.new hz).blk.cell 1
  have HH := Hb.new (Chg.refl [] u0).drew
  refine wp_region_noPanic ?_
  refine wp_region_held_drew (S := (fun w' => Chg [] u0 w')) (by kernel_rfl) ?_ (fun hHeld => ?_)
  ·exact (Chg.refl [] u0).drew
  refine tq 0 31 _ ?_
  refine tq 1 32 _ ?_
  refine tq 2 33 _ ?_
  (refine tk 3 34 ?_ ?_ ?_; rotate_left; · (intro w hSw; (try dsimp only at hSw); have d_ := hl3 _ hSw; go_simp; (try with_reducible rfl)))
  (try simp only [Act.put, qI, qO, qU])
  refine tq 4 35 _ ?_
  (refine tk 5 36 ?_ ?_ ?_; rotate_left; · (intro w hSw; (try dsimp only at hSw); have d_ := hl5 _ hSw; go_simp; (try with_reducible rfl)))
  refine tq 6 37 _ ?_
  (refine tk 7 38 ?_ ?_ ?_; rotate_left; · (intro w hSw; (try dsimp only at hSw); have d_ := hl7 _ hSw; go_simp; (try with_reducible rfl)))
  (try simp only [Act.put, qI, qO, qU])
  refine wpAnyH_ready (rs := [8, 12]) (by kernel_rfl) (by simp) ?_; refine AllReadyH.cons (o := _) rfl (fun K_ hK => ?_) (AllReadyH.cons (o := _) rfl (fun K_ hK => ?_) AllReadyH.nil)
  ·go_simp
   (go_at_call 44; refine (cS (HH.pick 4 rfl)).mono ?_; rintro e u1 ⟨rfl, y1⟩)
   refine hK.out _ _ (by (try dsimp only); exact hHeld.trans y1 (by simp)) (fun hHeld => ?_)
   clear hK K_
   (try simp only [Act.put, qI, qO, qU])
   replace HH := HH.new y1
   clear y1
   have hsb : u0.heap.size ≤ u1.heap.size := hHeld.size
   refine tq 9 30 _ ?_
   (try simp only [Act.put, qI, qO, qU])
   refine tq 10 40 _ ?_
   refine tq 11 41 _ ?_
   (try simp only [Act.put, qI, qO, qU])
   refine rdy 12 fun K_ hK => ?_
   go_simp
   refine hK.out _ _ (by (try dsimp only); exact hHeld.alloc _) (fun hHeld => ?_)
   clear hK K_
   (try simp only [Act.put, qI, qO, qU])
   replace HH := HH.alloc #[.int .i64 0, .int .i64 0, .bool false, .bool false, .bool false] 99
   generalize u1.alloc (.cells #[.int .i64 0, .int .i64 0, .bool false, .bool false, .bool false] 99) = u2 at *
   generalize u1.heap.size = sb at *
   have e0 := HH.blk.cell 0; have e1 := HH.blk.cell 1; have e2 := HH.blk.cell 2; have e3 := HH.blk.cell 3; have e4 := HH.blk.cell 4
   simp only [qA, qZ, qS] at e0 e1 e2 e3 e4
   have f0 := HH.blk.frozen 0; have f1 := HH.blk.frozen 1; have f2 := HH.blk.frozen 2; have f3 := HH.blk.frozen 3; have f4 := HH.blk.frozen 4
   have HH3 := ((((HH.cellSet 0 (.int .i64 kd)).cellSet 1 (.int .i64 to_)).cellSet 2 (.bool rw_)).cellSet 3 (.bool ru)).cellSet 4 (.bool rx)
   simp only [qI, qO, qU] at HH3
   have hY : Chg [sb] u2 (((((u2.setCell ⟨sb, 0, none⟩ (.int .i64 kd)).setCell ⟨sb, 1, none⟩ (.int .i64 to_)).setCell ⟨sb, 2, none⟩ (.bool rw_)).setCell ⟨sb, 3, none⟩ (.bool ru)).setCell ⟨sb, 4, none⟩ (.bool rx)) := (((((Chg.refl [sb] u2).setCell (p := ⟨sb, 0, none⟩) (by simp) _).setCell (p := ⟨sb, 1, none⟩) (by simp) _).setCell (p := ⟨sb, 2, none⟩) (by simp) _).setCell (p := ⟨sb, 3, none⟩) (by simp) _).setCell (p := ⟨sb, 4, none⟩) (by simp) _
   refine rdy 13 fun K_ hK => ?_
   go_simp
   refine hK.out _ _ (by (try dsimp only); exact hHeld.trans hY (fun i hi hm => by simp at hm; omega)) (fun hHeld => ?_)
   clear hK K_
   (try simp only [Act.put, qI, qO, qU])
   clear e0 e1 e2 e3 e4 f0 f1 f2 f3 f4 hY HH
   generalize (((((u2.setCell ⟨sb, 0, none⟩ (.int .i64 kd)).setCell ⟨sb, 1, none⟩ (.int .i64 to_)).setCell ⟨sb, 2, none⟩ (.bool rw_)).setCell ⟨sb, 3, none⟩ (.bool ru)).setCell ⟨sb, 4, none⟩ (.bool rx)) = u3 at *
   refine tq 14 9 _ ?_
   (try simp only [Act.put, qI, qO, qU])
   refine wpAnyH_done (by kernel_rfl) ?_ _
   refine NoPanic.normal ?_
   clear Hb hl3 hl5 hl7 cS
   cases rw_
   ·have e2 := HH3.blk.cell 2
    simp only [qA, qZ, qS] at e2
    have hK1 : K (k + 1) = K k := by rw [hst.out]; unfold fstepG; rw [hy.out]; rfl
    replace hK1 := Lib.hid hK1
    go_wp2_with fail
    go_roundw
    case rel => exact ⟨k + 1, by omega, by go_num, by rw [hK1.out]; exact HH3.tail.tail⟩
    case measure => simp [intOf]; omega
   have hK1 : K (k + 1) = ⟨leafS n (K k).s xf xi g h ⟨false, ru, rx⟩, [], (K k).l⟩ := by rw [hst.out]; unfold fstepG; rw [hy.out]; simp only [if_true, hh.out]; rfl
   replace hK1 := Lib.hid hK1
   have e2 := HH3.blk.cell 2; have f2 := HH3.blk.frozen 2
   simp only [qA, qZ, qS] at e2
   go_upto_region 7 with fail
   have H4 := HH3.cellSet 2 (.bool false)
   simp only [qI, qO, qU] at H4
   generalize u3.setCell ⟨sb, 2, none⟩ (.bool false) = u4 at *
   clear HH3 e2 f2
   have H5 := H4.new (Chg.refl [] u4).drew
   have d2 := (H5.pick 3 rfl).blk.cell 2
   unfold gdC at d2
   have x0 := (H5.pick 1 rfl).blk.cell 0; have x1 := (H5.pick 1 rfl).blk.cell 1
   simp only [qA, qZ, qS] at d2 x0 x1
   have hrn : (World.drew u4).rangeAt sb 2 [.bool false, .bool ru, .bool rx] := fun j v_ hv => by
    rw [H5.blk.cell]
    match j, hv with
    | 0, hv => simpa using hv
    | 1, hv => simpa using hv
    | 2, hv => simpa using hv
   have cL := (H5.pick 5 rfl).sLeaf xf xi g h ⟨false, ru, rx⟩ hxr
   simp only [Rg.cs] at cL
   clear H5
   refine wp_region_still_tail 12 (by kernel_rfl) (by kernel_rfl) ?_
   simp only [List.take_succ_cons, List.take_zero, List.drop_succ_cons, List.drop_zero]
   change wpStill _ _ (World.drew _) _ _ _
   iterate 11 still_step
   refine wpStill_plain rfl (fun K_ hK => ?_)
   refine still_load_mid 54 _ rfl sb 2 rfl [.bool false, .bool ru, .bool rx] _ hrn Tryz.underlying54 rfl (by kernel_rfl) (hK _ ?_)
   clear hK K_
   refine wpStill_nil ?_
   change wpList _ _ _ _ _ (World.drew u4)
   go_wp2_with fail
   refine cL.mono ?_; rintro e u5 ⟨rfl, H6⟩
   clear cL d2 x0 x1 hrn H4
   have H7 : SepC w0 u5 (ownT atE 104 (.slice (some ⟨b_, off, none⟩) N c0) TT :: blkT dd 144 (gdC gq mp q t (v)) :: ownT (numE .i64) 3 (v) (ll) :: stT q hp hb n a m ((leafS n (K k).s xf xi g h ⟨false, ru, rx⟩)) :: tlbT t most ((K k).T) :: mapT mp L :: blkT gq 169 (guC mp hp) :: l) := by
    have h1 := (H6.pick 1 rfl).tail
    have h2 := (h1.pick 1 rfl).tail
    exact h2.bk3
   clear H6
   have d3 := (H7.pick 1 rfl).blk.cell 3
   unfold gdC at d3
   simp only [qA, qZ, qS] at d3
   have cA := (H7.pick 4 rfl).tAll
   go_wp2_with fail
   refine cA.mono ?_; rintro e u6 ⟨rfl, H8⟩
   clear cA d3 H7
   replace H8 : SepC w0 u6 (ownT atE 104 (.slice (some ⟨b_, off, none⟩) N c0) TT :: blkT dd 144 (gdC gq mp q t (v)) :: ownT (numE .i64) 3 (v) (ll) :: stT q hp hb n a m ((leafS n (K k).s xf xi g h ⟨false, ru, rx⟩)) :: tlbT t most ([]) :: mapT mp L :: blkT gq 169 (guC mp hp) :: l) := (((H8.pick 4 rfl).pick 4 rfl).pick 4 rfl).pick 4 rfl
   go_wp2_with fail
   go_roundw
   case rel => exact ⟨k + 1, by omega, by go_num, by rw [hK1.out]; exact H8⟩
   case measure => simp [intOf]; omega
  clear HH
  go_simp
  refine hK.out _ _ (by (try dsimp only); exact ((Chg.refl [] u0).alloc _).drew) (fun hHeld => ?_)
  clear hK K_
  (try simp only [Act.put, qI, qO, qU])
  have HH := (Hb.alloc #[.int .i64 0, .int .i64 0, .bool false, .bool false, .bool false] 99).new (Chg.refl [] _).drew
  have hsb : u0.heap.size ≤ u0.heap.size := Nat.le_refl _
  generalize (u0.alloc (.cells #[.int .i64 0, .int .i64 0, .bool false, .bool false, .bool false] 99)).drew = u1 at *
  generalize hsb_ : u0.heap.size = sb at hsb HH ⊢
  clear hsb
  have hsb : u0.heap.size ≤ sb := by omega
  refine rdy 8 fun K_ hK => ?_
  go_simp
  (go_at_call 44; refine (cS (HH.pick 5 rfl)).mono ?_; rintro e u2 ⟨rfl, y1⟩)
  refine hK.out _ _ (by (try dsimp only); exact hHeld.trans y1 (by simp)) (fun hHeld => ?_)
  clear hK K_
  (try simp only [Act.put, qI, qO, qU])
  replace HH := HH.new y1
  clear y1 hsb_
  refine tq 9 30 _ ?_
  refine tq 10 40 _ ?_
  refine tq 11 41 _ ?_
  (try simp only [Act.put, qI, qO, qU])
  have e0 := HH.blk.cell 0; have e1 := HH.blk.cell 1; have e2 := HH.blk.cell 2; have e3 := HH.blk.cell 3; have e4 := HH.blk.cell 4
  simp only [qA, qZ, qS] at e0 e1 e2 e3 e4
  have f0 := HH.blk.frozen 0; have f1 := HH.blk.frozen 1; have f2 := HH.blk.frozen 2; have f3 := HH.blk.frozen 3; have f4 := HH.blk.frozen 4
  have HH3 := ((((HH.cellSet 0 (.int .i64 kd)).cellSet 1 (.int .i64 to_)).cellSet 2 (.bool rw_)).cellSet 3 (.bool ru)).cellSet 4 (.bool rx)
  simp only [qI, qO, qU] at HH3
  have hY : Chg [sb] u2 (((((u2.setCell ⟨sb, 0, none⟩ (.int .i64 kd)).setCell ⟨sb, 1, none⟩ (.int .i64 to_)).setCell ⟨sb, 2, none⟩ (.bool rw_)).setCell ⟨sb, 3, none⟩ (.bool ru)).setCell ⟨sb, 4, none⟩ (.bool rx)) := (((((Chg.refl [sb] u2).setCell (p := ⟨sb, 0, none⟩) (by simp) _).setCell (p := ⟨sb, 1, none⟩) (by simp) _).setCell (p := ⟨sb, 2, none⟩) (by simp) _).setCell (p := ⟨sb, 3, none⟩) (by simp) _).setCell (p := ⟨sb, 4, none⟩) (by simp) _
  refine rdy 13 fun K_ hK => ?_
  go_simp
  refine hK.out _ _ (by (try dsimp only); exact hHeld.trans hY (fun i hi hm => by simp at hm; omega)) (fun hHeld => ?_)
  clear hK K_
  (try simp only [Act.put, qI, qO, qU])
  clear e0 e1 e2 e3 e4 f0 f1 f2 f3 f4 hY HH
  generalize (((((u2.setCell ⟨sb, 0, none⟩ (.int .i64 kd)).setCell ⟨sb, 1, none⟩ (.int .i64 to_)).setCell ⟨sb, 2, none⟩ (.bool rw_)).setCell ⟨sb, 3, none⟩ (.bool ru)).setCell ⟨sb, 4, none⟩ (.bool rx)) = u3 at *
  refine tq 14 9 _ ?_
  (try simp only [Act.put, qI, qO, qU])
  refine wpAnyH_done (by kernel_rfl) ?_ _
  refine NoPanic.normal ?_
  clear Hb hl3 hl5 hl7 cS
  cases rw_
  ·have e2 := HH3.blk.cell 2
   simp only [qA, qZ, qS] at e2
   have hK1 : K (k + 1) = K k := by rw [hst.out]; unfold fstepG; rw [hy.out]; rfl
   replace hK1 := Lib.hid hK1
   go_wp2_with fail
   go_roundw
   case rel => exact ⟨k + 1, by omega, by go_num, by rw [hK1.out]; exact HH3.tail.tail⟩
   case measure => simp [intOf]; omega
  have hK1 : K (k + 1) = ⟨leafS n (K k).s xf xi g h ⟨false, ru, rx⟩, [], (K k).l⟩ := by rw [hst.out]; unfold fstepG; rw [hy.out]; simp only [if_true, hh.out]; rfl
  replace hK1 := Lib.hid hK1
  have e2 := HH3.blk.cell 2; have f2 := HH3.blk.frozen 2
  simp only [qA, qZ, qS] at e2
  go_upto_region 7 with fail
  have H4 := HH3.cellSet 2 (.bool false)
  simp only [qI, qO, qU] at H4
  generalize u3.setCell ⟨sb, 2, none⟩ (.bool false) = u4 at *
  clear HH3 e2 f2
  have H5 := H4.new (Chg.refl [] u4).drew
  have d2 := (H5.pick 3 rfl).blk.cell 2
  unfold gdC at d2
  have x0 := (H5.pick 1 rfl).blk.cell 0; have x1 := (H5.pick 1 rfl).blk.cell 1
  simp only [qA, qZ, qS] at d2 x0 x1
  have hrn : (World.drew u4).rangeAt sb 2 [.bool false, .bool ru, .bool rx] := fun j v_ hv => by
   rw [H5.blk.cell]
   match j, hv with
   | 0, hv => simpa using hv
   | 1, hv => simpa using hv
   | 2, hv => simpa using hv
  have cL := (H5.pick 5 rfl).sLeaf xf xi g h ⟨false, ru, rx⟩ hxr
  simp only [Rg.cs] at cL
  clear H5
  refine wp_region_still_tail 12 (by kernel_rfl) (by kernel_rfl) ?_
  simp only [List.take_succ_cons, List.take_zero, List.drop_succ_cons, List.drop_zero]
  change wpStill _ _ (World.drew _) _ _ _
  iterate 11 still_step
  refine wpStill_plain rfl (fun K_ hK => ?_)
  refine still_load_mid 54 _ rfl sb 2 rfl [.bool false, .bool ru, .bool rx] _ hrn Tryz.underlying54 rfl (by kernel_rfl) (hK _ ?_)
  clear hK K_
  refine wpStill_nil ?_
  change wpList _ _ _ _ _ (World.drew u4)
  go_wp2_with fail
  refine cL.mono ?_; rintro e u5 ⟨rfl, H6⟩
  clear cL d2 x0 x1 hrn H4
  have H7 : SepC w0 u5 (ownT atE 104 (.slice (some ⟨b_, off, none⟩) N c0) TT :: blkT dd 144 (gdC gq mp q t (v)) :: ownT (numE .i64) 3 (v) (ll) :: stT q hp hb n a m ((leafS n (K k).s xf xi g h ⟨false, ru, rx⟩)) :: tlbT t most ((K k).T) :: mapT mp L :: blkT gq 169 (guC mp hp) :: l) := by
   have h1 := (H6.pick 1 rfl).tail
   have h2 := (h1.pick 1 rfl).tail
   exact h2.bk3
  clear H6
  have d3 := (H7.pick 1 rfl).blk.cell 3
  unfold gdC at d3
  simp only [qA, qZ, qS] at d3
  have cA := (H7.pick 4 rfl).tAll
  go_wp2_with fail
  refine cA.mono ?_; rintro e u6 ⟨rfl, H8⟩
  clear cA d3 H7
  replace H8 : SepC w0 u6 (ownT atE 104 (.slice (some ⟨b_, off, none⟩) N c0) TT :: blkT dd 144 (gdC gq mp q t (v)) :: ownT (numE .i64) 3 (v) (ll) :: stT q hp hb n a m ((leafS n (K k).s xf xi g h ⟨false, ru, rx⟩)) :: tlbT t most ([]) :: mapT mp L :: blkT gq 169 (guC mp hp) :: l) := (((H8.pick 4 rfl).pick 4 rfl).pick 4 rfl).pick 4 rfl
  go_wp2_with fail
  go_roundw
  case rel => exact ⟨k + 1, by omega, by go_num, by rw [hK1.out]; exact H8⟩
  case measure => simp [intOf]; omega
 have ek : k = N := by omega
 have hltz : ¬ (k : Int) < (N : Int) := by omega
 subst ek
 rw [hKe.out] at H
 go_wp2_with fail
 go_end0
 exact ⟨rfl, H.tail⟩
end
section
variable {w0 w w' : World} {dd gq mp q hp hb t n a m most : Nat} {L : List Int} {v : Value} {s : Sr} {T : List Ht} {ll : List Int} {l : List Th} {d : Gd}
theorem pstep_some (h : SrOk n a m s) (g : Int) {x : Int × Int} (hx : 0 ≤ x.2 ∧ x.2 ≤ 7) (f j : Int) : (slotP (pstepS n L g s x).L f j).isSome = (slotP s.L f j).isSome := by
 unfold pstepS
 split
 ·rw [h.clear_wipe _ _ hx, slot_wipe, Option.isSome_map]
 rfl
theorem psteps_some (g f j : Int) : ∀ (l : List (Int × Int)) {s : Sr}, SrOk n a m s → (∀ x ∈ l, 0 ≤ x.2 ∧ x.2 ≤ 7) → (slotP (l.foldl (pstepS n L g) s).L f j).isSome = (slotP s.L f j).isSome
 | [], _, _, _ => rfl
 | x :: l, s, h, hl => by rw [List.foldl_cons, psteps_some g f j l (h.pstep g x) (fun y hy => hl y (by simp [hy])), pstep_some h g (hl x (by simp))]
theorem pruneK_some (h : SrOk n a m s) (g p : Int) (k : Nat) (hk : k ≤ 8) (f j : Int) : (slotP (pruneK n L g s p k).L f j).isSome = (slotP s.L f j).isSome :=
 psteps_some g f j _ h fun x hx => by have := mem_eight.1 hx; omega
theorem prunes_some (g f j : Int) : ∀ (l : List Int) {s : Sr}, SrOk n a m s → (slotP (l.foldl (pruneS n L g) s).L f j).isSome = (slotP s.L f j).isSome
 | [], _, _ => rfl
 | p :: l, s, h => by
  have h1 : SrOk n a m (pruneS n L g s p) := h.prune g p 8
  have h2 : (slotP (pruneS n L g s p).L f j).isSome = (slotP s.L f j).isSome := pruneK_some h g p 8 (Nat.le_refl _) f j
  rw [List.foldl_cons, prunes_some g f j l h1, h2]
theorem WdW.psteps (g : Int) : ∀ (l : List (Int × Int)) {s : Sr}, WdW s.W → WdW (l.foldl (pstepS n L g) s).W
 | [], _, h => h
 | x :: l, s, h => WdW.psteps g l (by unfold pstepS; split; exact h.clear _ _; exact h)
theorem WdW.prunes (g : Int) : ∀ (l : List Int) {s : Sr}, WdW s.W → WdW (l.foldl (pruneS n L g) s).W
 | [], _, h => h
 | p :: l, s, h => by
  have h1 : WdW (pruneS n L g s p).W := by unfold pruneS pruneK; exact WdW.psteps g _ h
  rw [List.foldl_cons]; exact WdW.prunes g l h1
theorem WdW.getG_ (h : WdW s.W) (g i : Int) : 0 ≤ getG n s.W L g i ∧ getG n s.W L g i < 18446744073709551616 := by
 unfold getG; split
 ·exact h.get_ n _ _
 omega
set_option maxRecDepth 100000 in
set_option maxHeartbeats 2000000 in
theorem each3_any (f : FuncId) (eg : ∀ args w, (callFunc f args).run Tryz.prog w = .ok (.enter f args) w) (dd q c0 c1 c2 : Nat) (p : Int) (X : Nat → Slt) (Inv : Nat → World → Prop)
  (hsl : ∀ i w, i < 8 → Inv i w → Calls Tryz.prog 44 #[.pointer (some ⟨q, 0, none⟩), .int .i64 p, .int .i64 (i : Nat)] w fun e w' => e = .returned (.tuple #[.agg (X i).cl.toArray, .bool true]) ∧ Chg [] w w')
  (hnew : ∀ i w w', Inv i w → Chg [] w w' → Inv i w') (hdd : ∀ i w, Inv i w → w.cell? ⟨dd, 2, none⟩ = some (.pointer (some ⟨q, 0, none⟩)))
  (hfn : ∀ i w, i < 8 → Inv i w → Calls Tryz.prog f #[.int .i64 (i : Nat), .agg (X i).cl.toArray, .pointer (some ⟨c0, 0, none⟩), .pointer (some ⟨c1, 0, none⟩), .pointer (some ⟨c2, 0, none⟩)] w fun e w' => e = .returned (.tuple #[]) ∧ Inv (i + 1) w') (w : World) (h0 : Inv 0 w) :
  Calls Tryz.prog 184 #[.pointer (some ⟨dd, 0, none⟩), .int .i64 p, .func (.func f) #[] #[.pointer (some ⟨c0, 0, none⟩), .pointer (some ⟨c1, 0, none⟩), .pointer (some ⟨c2, 0, none⟩)]] w fun e w' => e = .returned (.tuple #[]) ∧ Inv 8 w' := by
 replace hsl := Lib.hid hsl; replace hnew := Lib.hid hnew; replace hdd := Lib.hid hdd; replace hfn := Lib.hid hfn
 go_enter Tryz.func184, Tryz.ntmps184
 go_wp2_with fail
 go_loopw [9] (fun s9 wr => ∃ k : Nat, k ≤ 8 ∧ s9 = .int .i64 k ∧ Inv k wr) (fun s9 _ => 8 - (intOf s9).toNat)
 case atStart => exact ⟨0, by omega, rfl, h0⟩
 obtain ⟨k, hk, rfl, H⟩ := hrel
 clear h0
 by_cases hlt : k < 8
 ·have hltz : (k : Int) < 8 := by omega
  have hs := hsl.out k wr hlt H
  have d2 := hdd.out k wr H
  have hf := fun w' H' => hfn.out k w' hlt H'
  generalize X k = x at *
  obtain ⟨kd, to_, ⟨rw_, ru, rx⟩⟩ := x
  simp only [Slt.cl] at hs hf
  go_wp2_with fail
  refine hs.mono ?_; rintro e w2 ⟨rfl, y2⟩
  have H2 := hnew.out k _ _ H (y2.alloc (.cells #[.int .i64 kd, .int .i64 to_, .bool rw_, .bool ru, .bool rx] 99))
  clear hs d2 H y2
  go_wp2_with fail
  refine (hf _ H2).mono ?_; rintro e w3 ⟨rfl, H3⟩
  clear hf H2
  go_wp2_with fail
  go_roundw
  case rel => exact ⟨k + 1, by omega, by go_num, H3⟩
  case measure => simp [intOf]; omega
 have ek : k = 8 := by omega
 subst ek
 have hltz : ¬ ((8 : Nat) : Int) < 8 := by omega
 go_wp2_with fail
 go_end0
 exact ⟨rfl, H⟩
set_option maxRecDepth 100000 in
set_option maxHeartbeats 2000000 in
theorem each6_any (f : FuncId) (eg : ∀ args w, (callFunc f args).run Tryz.prog w = .ok (.enter f args) w) (dd q c0 c1 c2 c3 c4 c5 : Nat) (p : Int) (X : Nat → Slt) (Inv : Nat → World → Prop)
  (hsl : ∀ i w, i < 8 → Inv i w → Calls Tryz.prog 44 #[.pointer (some ⟨q, 0, none⟩), .int .i64 p, .int .i64 (i : Nat)] w fun e w' => e = .returned (.tuple #[.agg (X i).cl.toArray, .bool true]) ∧ Chg [] w w')
  (hnew : ∀ i w w', Inv i w → Chg [] w w' → Inv i w') (hdd : ∀ i w, Inv i w → w.cell? ⟨dd, 2, none⟩ = some (.pointer (some ⟨q, 0, none⟩)))
  (hfn : ∀ i w, i < 8 → Inv i w → Calls Tryz.prog f #[.int .i64 (i : Nat), .agg (X i).cl.toArray, .pointer (some ⟨c0, 0, none⟩), .pointer (some ⟨c1, 0, none⟩), .pointer (some ⟨c2, 0, none⟩), .pointer (some ⟨c3, 0, none⟩), .pointer (some ⟨c4, 0, none⟩), .pointer (some ⟨c5, 0, none⟩)] w fun e w' => e = .returned (.tuple #[]) ∧ Inv (i + 1) w') (w : World) (h0 : Inv 0 w) :
  Calls Tryz.prog 184 #[.pointer (some ⟨dd, 0, none⟩), .int .i64 p, .func (.func f) #[] #[.pointer (some ⟨c0, 0, none⟩), .pointer (some ⟨c1, 0, none⟩), .pointer (some ⟨c2, 0, none⟩), .pointer (some ⟨c3, 0, none⟩), .pointer (some ⟨c4, 0, none⟩), .pointer (some ⟨c5, 0, none⟩)]] w fun e w' => e = .returned (.tuple #[]) ∧ Inv 8 w' := by
 replace hsl := Lib.hid hsl; replace hnew := Lib.hid hnew; replace hdd := Lib.hid hdd; replace hfn := Lib.hid hfn
 go_enter Tryz.func184, Tryz.ntmps184
 go_wp2_with fail
 go_loopw [9] (fun s9 wr => ∃ k : Nat, k ≤ 8 ∧ s9 = .int .i64 k ∧ Inv k wr) (fun s9 _ => 8 - (intOf s9).toNat)
 case atStart => exact ⟨0, by omega, rfl, h0⟩
 obtain ⟨k, hk, rfl, H⟩ := hrel
 clear h0
 by_cases hlt : k < 8
 ·have hltz : (k : Int) < 8 := by omega
  have hs := hsl.out k wr hlt H
  have d2 := hdd.out k wr H
  have hf := fun w' H' => hfn.out k w' hlt H'
  generalize X k = x at *
  obtain ⟨kd, to_, ⟨rw_, ru, rx⟩⟩ := x
  simp only [Slt.cl] at hs hf
  go_wp2_with fail
  refine hs.mono ?_; rintro e w2 ⟨rfl, y2⟩
  have H2 := hnew.out k _ _ H (y2.alloc (.cells #[.int .i64 kd, .int .i64 to_, .bool rw_, .bool ru, .bool rx] 99))
  clear hs d2 H y2
  go_wp2_with fail
  refine (hf _ H2).mono ?_; rintro e w3 ⟨rfl, H3⟩
  clear hf H2
  go_wp2_with fail
  go_roundw
  case rel => exact ⟨k + 1, by omega, by go_num, H3⟩
  case measure => simp [intOf]; omega
 have ek : k = 8 := by omega
 subst ek
 have hltz : ¬ ((8 : Nat) : Int) < 8 := by omega
 go_wp2_with fail
 go_end0
 exact ⟨rfl, H⟩
set_option maxRecDepth 100000 in
set_option maxHeartbeats 8000000 in
theorem SepC.gPrune1 {bd bg bp : Nat} {g p : Int} {i : Nat} (H : SepC w0 w (blkT bd 49 #[.pointer (some ⟨dd, 0, none⟩)] :: blkT bg 3 #[.int .i64 g] :: blkT bp 3 #[.int .i64 p] :: blkT dd 144 (gdC gq mp q t (v)) :: ownT (numE .i64) 3 (v) (ll) :: stT q hp hb n a m (s) :: tlbT t most (T) :: mapT mp L :: blkT gq 169 (guC mp hp) :: l)) (hi : InH n L) (hwd : WdW s.W) (hpr : i64B p) :
  Calls Tryz.prog 185 #[.int .i64 (i : Nat), .agg (slV s.L (p, (i : Int))).cl.toArray, .pointer (some ⟨bd, 0, none⟩), .pointer (some ⟨bg, 0, none⟩), .pointer (some ⟨bp, 0, none⟩)] w fun e w' => e = .returned (.tuple #[]) ∧ SepC w0 w' (blkT bd 49 #[.pointer (some ⟨dd, 0, none⟩)] :: blkT bg 3 #[.int .i64 g] :: blkT bp 3 #[.int .i64 p] :: blkT dd 144 (gdC gq mp q t (v)) :: ownT (numE .i64) 3 (v) (ll) :: stT q hp hb n a m (pstepS n L g s (p, (i : Int))) :: tlbT t most (T) :: mapT mp L :: blkT gq 169 (guC mp hp) :: l) := by
 obtain ⟨V, hV, hV2⟩ : ∃ V : Nat, getG n s.W L g (i : Int) = (V : Int) ∧ V < 18446744073709551616 := ⟨(getG n s.W L g (i : Int)).toNat, by have := hwd.getG_ (n := n) (L := L) g i; omega, by have := hwd.getG_ (n := n) (L := L) g i; omega⟩
 have hbad : badC n L s g (p, (i : Int)) = (decide ((slV s.L (p, (i : Int))).kind = 2) && !agreeB (slV s.L (p, (i : Int))) (getE V)) := by unfold badC entG; rw [hV]; rfl
 have cG := fun {z : World} {l' : List Th} {T' : List Ht} (H' : SepC w0 z (blkT dd 144 (gdC gq mp q t (v)) :: ownT (numE .i64) 3 (v) (ll) :: stT q hp hb n a m (s) :: tlbT t most (T') :: mapT mp L :: blkT gq 169 (guC mp hp) :: l')) => H'.gGet hi g (i : Int)
 rw [hV] at cG
 have cP := fun z => Get_any V z hV2
 have cA := fun z => Agrees_any (slV s.L (p, (i : Int))) (getE V) z
 have hps : pstepS n L g s (p, (i : Int)) = if badC n L s g (p, (i : Int)) = true then clearS n s p (i : Int) else s := rfl
 rw [hbad] at hps
 generalize agreeB (slV s.L (p, (i : Int))) (getE V) = ag at *
 generalize pstepS n L g s (p, (i : Int)) = s' at *
 generalize slV s.L (p, (i : Int)) = x at *
 generalize getE V = en at *
 obtain ⟨ep, ew, eu, ea, ed, es, ex, eb, ef⟩ := en
 obtain ⟨kd, to_, ⟨rw_, ru, rx⟩⟩ := x
 simp only [Slt.cl, Ent.cs] at cP cA ⊢
 simp only at hps
 clear hbad hV hV2 hwd
 generalize hasG n L g (i : Int) = hg_ at *
 have H1 := H.alloc #[.int .i64 kd, .int .i64 to_, .bool rw_, .bool ru, .bool rx] 99
 go_enter Tryz.func185, Tryz.ntmps185
 go_upto_region 1 with fail
 generalize w.alloc (.cells #[.int .i64 kd, .int .i64 to_, .bool rw_, .bool ru, .bool rx] 99) = w1 at *
 generalize w.heap.size = bx at *
 clear H
 have lx : ∀ z, Chg [] w1 z → Blk z bx 99 #[.int .i64 kd, .int .i64 to_, .bool rw_, .bool ru, .bool rx] := fun z hz => (H1.new hz).blk
 have ld : ∀ z, Chg [] w1 z → z.cell? ⟨bd, 0, none⟩ = some (.pointer (some ⟨dd, 0, none⟩)) := fun z hz => ((H1.new hz).pick 1 rfl).blk.cell 0
 have lg : ∀ z, Chg [] w1 z → z.cell? ⟨bg, 0, none⟩ = some (.int .i64 g) := fun z hz => ((H1.new hz).pick 2 rfl).blk.cell 0
 have lp : ∀ z, Chg [] w1 z → z.cell? ⟨bp, 0, none⟩ = some (.int .i64 p) := fun z hz => ((H1.new hz).pick 3 rfl).blk.cell 0
 have l0 : ∀ z, Chg [] w1 z → z.cell? ⟨dd, 0, none⟩ = some (.pointer (some ⟨gq, 0, none⟩)) := fun z hz => ((H1.new hz).pick 4 rfl).blk.cell 0
 have l2 : ∀ z, Chg [] w1 z → z.cell? ⟨dd, 2, none⟩ = some (.pointer (some ⟨q, 0, none⟩)) := fun z hz => ((H1.new hz).pick 4 rfl).blk.cell 2
 refine wp_region_noPanic ?_
 refine wp_region_held_drew (S := (fun w' => Chg [] w1 w')) (by kernel_rfl) ?_ (fun hHeld => ?_)
 ·exact (Chg.refl [] w1).drew
 (refine tk 0 10 ?_ ?_ ?_; rotate_left; · (intro w hSw; (try dsimp only at hSw); have d_ := ld _ hSw; go_simp; (try with_reducible rfl)))
 (try simp only [Act.put, qI, qO, qU])
 refine tq 1 11 _ ?_
 refine tq 2 12 _ ?_
 (refine tk 3 13 ?_ ?_ ?_; rotate_left; · (intro w hSw; (try dsimp only at hSw); have d_ := l0 _ hSw; go_simp; (try with_reducible rfl)))
 (refine tk 4 14 ?_ ?_ ?_; rotate_left; · (intro w hSw; (try dsimp only at hSw); have d_ := lg _ hSw; go_simp; (try with_reducible rfl)))
 (try simp only [Act.put, qI, qO, qU])
 refine tq 5 15 _ ?_
 (try simp only [Act.put, qI, qO, qU])
 refine rdy 6 fun K hK => ?_
 go_simp
 (go_at_call 153; refine (cG ((((H1.new hHeld).tail).tail).tail).tail).mono ?_; rintro e u1 ⟨rfl, rfl⟩)
 refine hK.out _ _ (by (try dsimp only); exact hHeld) (fun hHeld => ?_)
 clear hK K
 (try simp only [Act.put, qI, qO, qU])
 refine tq 7 9 _ ?_
 refine tq 8 17 _ ?_
 refine tq 9 18 _ ?_
 refine tq 10 7 _ ?_
 (try simp only [Act.put, qI, qO, qU])
 refine tq 11 8 _ ?_
 (try simp only [Act.put, qI, qO, qU])
 refine wpAnyH_done (by kernel_rfl) ?_ _
 refine NoPanic.normal ?_
 have H2 := H1.new (Chg.refl [] w1).drew
 clear hHeld lx ld lg lp l0 l2 H1 cG
 go_upto_region 2 with fail
 generalize w1.drew = z1 at *
 have lx : ∀ z, Chg [] z1 z → Blk z bx 99 #[.int .i64 kd, .int .i64 to_, .bool rw_, .bool ru, .bool rx] := fun z hz => (H2.new hz).blk
 have ld : ∀ z, Chg [] z1 z → z.cell? ⟨bd, 0, none⟩ = some (.pointer (some ⟨dd, 0, none⟩)) := fun z hz => ((H2.new hz).pick 1 rfl).blk.cell 0
 have lp : ∀ z, Chg [] z1 z → z.cell? ⟨bp, 0, none⟩ = some (.int .i64 p) := fun z hz => ((H2.new hz).pick 3 rfl).blk.cell 0
 have l2 : ∀ z, Chg [] z1 z → z.cell? ⟨dd, 2, none⟩ = some (.pointer (some ⟨q, 0, none⟩)) := fun z hz => ((H2.new hz).pick 4 rfl).blk.cell 2
 by_cases hk2 : kd = 2
 ·subst hk2
  cases ag
  ·have hs' : s' = clearS n s p (i : Int) := by rw [hps]; rfl
   replace hps := Lib.hid hps; replace hs' := Lib.hid hs'
   refine wp_region_noPanic ?_
   refine wp_region_held_drew (S := (fun w' => Chg [] z1 w')) (by kernel_rfl) ?_ (fun hHeld => ?_)
   ·exact (Chg.refl [] z1).drew
   refine tq 0 19 _ ?_
   (refine tk 1 20 ?_ ?_ ?_; rotate_left; · (intro w hSw; (try dsimp only at hSw); have bx_ := lx _ hSw; have q0_ := bx_.cell 0; have q1_ := bx_.cell 1; have q2_ := bx_.cell 2; have q3_ := bx_.cell 3; have q4_ := bx_.cell 4; simp only [qA, qZ, qS] at q0_ q1_ q2_ q3_ q4_; go_simp; (try with_reducible rfl)))
   refine tq 2 21 _ ?_
   refine tq 3 22 _ ?_
   (try simp only [Act.put, qI, qO, qU])
   (refine tk 4 23 ?_ ?_ ?_; rotate_left; · (intro w hSw; (try dsimp only at hSw); have bx_ := lx _ hSw; have q0_ := bx_.cell 0; have q1_ := bx_.cell 1; have q2_ := bx_.cell 2; have q3_ := bx_.cell 3; have q4_ := bx_.cell 4; simp only [qA, qZ, qS] at q0_ q1_ q2_ q3_ q4_; go_simp; (try with_reducible rfl)))
   refine tq 5 24 _ ?_
   (try simp only [Act.put, qI, qO, qU])
   refine rdy 6 fun K hK => ?_
   go_simp
   (go_at_call 154; refine (cP _).mono ?_; rintro e u1 ⟨rfl, y1⟩)
   refine hK.out _ _ (by (try dsimp only); exact hHeld.trans y1 (by simp)) (fun hHeld => ?_)
   clear hK K
   (try simp only [Act.put, qI, qO, qU])
   refine rdy 7 fun K hK => ?_
   go_simp
   (go_at_call 186; refine (cA _).mono ?_; rintro e u2 ⟨rfl, y2⟩)
   refine hK.out _ _ (by (try dsimp only); exact hHeld.trans y2 (by simp)) (fun hHeld => ?_)
   clear hK K
   (try simp only [Act.put, qI, qO, qU])
   refine tq 8 27 _ ?_
   refine tq 9 28 _ ?_
   (try simp only [Act.put, qI, qO, qU])
   refine wpAnyH_done (by kernel_rfl) ?_ _
   refine NoPanic.normal ?_
   have H3 := H2.new hHeld
   clear lx cP cA
   go_upto_region 3 with fail
   have H4 := H3.new (Chg.refl [] _).drew
   have x0 := (H4.pick 1 rfl).blk.cell 0; have x1 := (H4.pick 3 rfl).blk.cell 0; have x2 := (H4.pick 4 rfl).blk.cell 2
   unfold gdC at x2
   simp only [qA, qZ, qS] at x0 x1 x2
   have cC := (H4.pick 6 rfl).sClear p (i : Int) hpr
   clear H2 H3 H4 ld lp l2
   refine wp_region_still_tail 6 (by kernel_rfl) (by kernel_rfl) ?_
   simp only [List.take_succ_cons, List.take_zero, List.drop_succ_cons, List.drop_zero]
   change wpStill _ _ (World.drew _) _ _ _
   iterate 6 still_step
   refine wpStill_nil ?_
   change wpList _ _ _ _ _ (World.drew _)
   go_wp2_with fail
   refine cC.mono ?_; rintro e u5 ⟨rfl, H6⟩
   go_wp2_with fail
   go_end0
   have H7 := (H6.pick 1 rfl).tail
   rw [hs'.out]
   exact ⟨rfl, (((((H7.pick 5 rfl).pick 5 rfl).pick 5 rfl).pick 5 rfl).pick 5 rfl)⟩
  have hs' : s' = s := by rw [hps]; rfl
  replace hps := Lib.hid hps; replace hs' := Lib.hid hs'
  refine wp_region_noPanic ?_
  refine wp_region_held_drew (S := (fun w' => Chg [] z1 w')) (by kernel_rfl) ?_ (fun hHeld => ?_)
  ·exact (Chg.refl [] z1).drew
  refine tq 0 19 _ ?_
  (refine tk 1 20 ?_ ?_ ?_; rotate_left; · (intro w hSw; (try dsimp only at hSw); have bx_ := lx _ hSw; have q0_ := bx_.cell 0; have q1_ := bx_.cell 1; have q2_ := bx_.cell 2; have q3_ := bx_.cell 3; have q4_ := bx_.cell 4; simp only [qA, qZ, qS] at q0_ q1_ q2_ q3_ q4_; go_simp; (try with_reducible rfl)))
  (try simp only [Act.put, qI, qO, qU])
  refine tq 2 21 _ ?_
  refine tq 3 22 _ ?_
  (refine tk 4 23 ?_ ?_ ?_; rotate_left; · (intro w hSw; (try dsimp only at hSw); have bx_ := lx _ hSw; have q0_ := bx_.cell 0; have q1_ := bx_.cell 1; have q2_ := bx_.cell 2; have q3_ := bx_.cell 3; have q4_ := bx_.cell 4; simp only [qA, qZ, qS] at q0_ q1_ q2_ q3_ q4_; go_simp; (try with_reducible rfl)))
  refine tq 5 24 _ ?_
  (try simp only [Act.put, qI, qO, qU])
  refine rdy 6 fun K hK => ?_
  go_simp
  (go_at_call 154; refine (cP _).mono ?_; rintro e u1 ⟨rfl, y1⟩)
  refine hK.out _ _ (by (try dsimp only); exact hHeld.trans y1 (by simp)) (fun hHeld => ?_)
  clear hK K
  (try simp only [Act.put, qI, qO, qU])
  refine rdy 7 fun K hK => ?_
  go_simp
  (go_at_call 186; refine (cA _).mono ?_; rintro e u2 ⟨rfl, y2⟩)
  refine hK.out _ _ (by (try dsimp only); exact hHeld.trans y2 (by simp)) (fun hHeld => ?_)
  clear hK K
  (try simp only [Act.put, qI, qO, qU])
  refine tq 8 27 _ ?_
  (try simp only [Act.put, qI, qO, qU])
  refine tq 9 28 _ ?_
  (try simp only [Act.put, qI, qO, qU])
  refine wpAnyH_done (by kernel_rfl) ?_ _
  refine NoPanic.normal ?_
  go_wp2_with fail
  go_end0
  rw [hs'.out]
  exact ⟨rfl, (H2.new hHeld).tail⟩
 have bk : (kd == 2) = false := by simpa using hk2
 have hs' : s' = s := by rw [hps]; simp [hk2]
 replace hps := Lib.hid hps; replace hk2 := Lib.hid hk2; replace hs' := Lib.hid hs'
 refine wp_region_noPanic ?_
 refine wp_region_held_drew (S := (fun w' => Chg [] z1 w')) (by kernel_rfl) ?_ (fun hHeld => ?_)
 ·exact (Chg.refl [] z1).drew
 refine tq 0 19 _ ?_
 (refine tk 1 20 ?_ ?_ ?_; rotate_left; · (intro w hSw; (try dsimp only at hSw); have bx_ := lx _ hSw; have q0_ := bx_.cell 0; have q1_ := bx_.cell 1; have q2_ := bx_.cell 2; have q3_ := bx_.cell 3; have q4_ := bx_.cell 4; simp only [qA, qZ, qS] at q0_ q1_ q2_ q3_ q4_; go_simp; (try with_reducible rfl)))
 refine tq 2 21 _ ?_
 refine tq 3 22 _ ?_
 (try simp only [Act.put, qI, qO, qU])
 (refine tko 4 23 ?_)
 (refine tko 5 24 ?_)
 (refine tko 6 25 ?_)
 (refine tko 7 26 ?_)
 (try simp only [Act.put, qI, qO, qU])
 (refine tko 8 27 ?_)
 refine tq 9 28 _ ?_
 (try simp only [Act.put, qI, qO, qU])
 refine wpAnyH_done (by kernel_rfl) ?_ _
 refine NoPanic.normal ?_
 go_wp2_with fail
 go_end0
 rw [hs'.out]
 exact ⟨rfl, (H2.new hHeld).tail⟩
end
end Go.Proofs.YtmbgepafpcbakaaGreatDoor
