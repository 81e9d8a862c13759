/-
 What the laws of guard start from: the guest's frames, a world of forty frames, calls.
-/
import Derived.Test.YtgjfidjhbkaobaaGreatGD3K
import Derived.Test.YtgjfidjhbkaobaaGreatPutsK
import Derived.Deep.CutRange
namespace Go.Proofs.YtgjfidjhbkaobaaGreat
open Go.RowKit Go.Maps
structure Gst where
 what : Int
 k : Ky
 p : Int
 i : Int
 t : Int
 r : Rg
 v : Int
def Gst.cs (o : Gst) : Array Value := #[.int .i64 o.what, .int .i64 o.k.g, .int .i64 o.k.lev, .int .i64 o.k.role, .int .i64 o.p, .int .i64 o.i, .int .i64 o.t, .bool o.r.w, .bool o.r.u, .bool o.r.x, .int .u64 o.v]
def gopE : Enc Gst := ⟨fun o => o.cs.toList, 11, by decide, fun _ => rfl, fun o u hu => by
 simp only [Gst.cs, List.mem_cons, List.not_mem_nil, or_false] at hu
 rcases hu with rfl | rfl | rfl | rfl | rfl | rfl | rfl | rfl | rfl | rfl | rfl <;> rfl⟩
theorem gopE_cells {w : World} {A : Option Addr} {n : Nat} {L : List Gst} (h : SlG gopE w A n L) {k : Nat} (hk : k < n) : ∃ b off o, A = some ⟨b, off, none⟩ ∧ L[k]? = some o ∧
  w.cell? ⟨b, off + k * 11, none⟩ = some (.int .i64 o.what) ∧ w.cell? ⟨b, off + k * 11 + 1, none⟩ = some (.int .i64 o.k.g) ∧ w.cell? ⟨b, off + k * 11 + 2, none⟩ = some (.int .i64 o.k.lev) ∧ w.cell? ⟨b, off + k * 11 + 3, none⟩ = some (.int .i64 o.k.role) ∧
  w.cell? ⟨b, off + k * 11 + 4, none⟩ = some (.int .i64 o.p) ∧ w.cell? ⟨b, off + k * 11 + 5, none⟩ = some (.int .i64 o.i) ∧ w.cell? ⟨b, off + k * 11 + 6, none⟩ = some (.int .i64 o.t) ∧
  w.cell? ⟨b, off + k * 11 + 7, none⟩ = some (.bool o.r.w) ∧ w.cell? ⟨b, off + k * 11 + 8, none⟩ = some (.bool o.r.u) ∧ w.cell? ⟨b, off + k * 11 + 9, none⟩ = some (.bool o.r.x) ∧ w.cell? ⟨b, off + k * 11 + 10, none⟩ = some (.int .u64 o.v) := by
 obtain ⟨b, off, x, e, _, hx, hat⟩ := h.get hk
 exact ⟨b, off, x, e, hx, hat 0 _ rfl, hat 1 _ rfl, hat 2 _ rfl, hat 3 _ rfl, hat 4 _ rfl, hat 5 _ rfl, hat 6 _ rfl, hat 7 _ rfl, hat 8 _ rfl, hat 9 _ rfl, hat 10 _ rfl⟩
def Gst.Wf (o : Gst) : Prop := i64B o.k.g ∧ i64B o.p ∧ i64B o.t ∧ 0 ≤ o.v ∧ o.v < 18446744073709551616
structure GopsIn (w : World) (A : Option Addr) (n : Nat) (L : List Gst) : Prop where
 sl : SlG gopE w A n L
 wf : ∀ o ∈ L, o.Wf
theorem GopsIn.new {w w' : World} {A : Option Addr} {n : Nat} {L : List Gst} (h : GopsIn w A n L) (hc : Chg [] w w') : GopsIn w' A n L := ⟨h.sl.new hc, h.wf⟩
theorem GopsIn.at_ {w : World} {A : Option Addr} {n : Nat} {L : List Gst} (h : GopsIn w A n L) {k : Nat} {o : Gst} (ho : L[k]? = some o) : o.Wf := h.wf o (List.mem_of_getElem? ho)
def gl16 : List Int := (List.range 16).map fun (j : Nat) => 24 + (j : Int)
theorem gl16_in : InH 40 gl16 := by
 intro h hh
 unfold gl16 at hh
 rw [List.mem_map] at hh
 obtain ⟨j, hj, rfl⟩ := hh
 rw [List.mem_range] at hj
 omega
theorem gl16_ap : ∀ h ∈ gl16, ¬ (((4 : Nat) : Int) ≤ h ∧ h < ((4 : Nat) : Int) + (8 : Nat)) := by
 intro h hh
 unfold gl16 at hh
 rw [List.mem_map] at hh
 obtain ⟨j, hj, rfl⟩ := hh
 omega
theorem gl16_nd : gl16.Nodup := by
 unfold gl16
 rw [List.nodup_iff_pairwise_ne, List.pairwise_map]
 exact List.Pairwise.imp (fun h => by omega) (List.pairwise_lt_range (n := 16))
theorem gl16_ok : OkL gl16 40 := ⟨by decide, by decide, by omega, by omega, fun h hh => by have := gl16_in h hh; omega, gl16_nd⟩
def setsG (W : List Int) (l : List Pu) : List Int := l.foldl (fun W x => setG 40 W gl16 x.g x.i x.v) W
def madeG (l : List Pu) : List Int := setsG (zeros (8 * 40)) l
theorem setsG_snoc {W : List Int} {l : List Pu} {k : Nat} {x : Pu} (h : l[k]? = some x) : setsG W (l.take (k + 1)) = setG 40 (setsG W (l.take k)) gl16 x.g x.i x.v := by
 have hk := (List.getElem?_eq_some_iff.1 h).1
 rw [List.take_succ_eq_append_getElem hk, (List.getElem?_eq_some_iff.1 h).2]
 unfold setsG; rw [List.foldl_append]; rfl
def gd0 (W : List Int) : Gd := ⟨⟨[], dnk 4 8, W⟩, [], []⟩
theorem gd0_in {W : List Int} (hW : W.length = 8 * 40) (hw : WdW W) : GdIn 40 4 8 gl16 (gd0 W) :=
 ⟨⟨SrOk.new (by omega) (by omega) hW, gl16_in, gl16_ap, by omega, List.nodup_nil, by intro g hg; cases hg⟩, hw, by intro g hg; cases hg⟩
def wdC (hp gq q t dd : Nat) : Array Value := #[.pointer (some ⟨hp, 0, none⟩), .pointer (some ⟨gq, 0, none⟩), .pointer (some ⟨q, 0, none⟩), .pointer (some ⟨t, 0, none⟩), .pointer (some ⟨dd, 0, none⟩)]
def doG (d : Gd) (o : Gst) : Gd :=
 if o.what = 0 ∨ o.what = 1 then makeG 40 gl16 d o.k else if o.what = 2 ∨ o.what = 3 then ⟨childS 40 d.s o.p o.i o.t o.r, d.T, d.l⟩ else if o.what = 4 ∨ o.what = 5 then ⟨leafS 40 d.s o.p o.i o.t (24 + o.t % 16) o.r, d.T, d.l⟩
 else if o.what = 6 then zapG 40 d o.p o.i else if o.what = 7 then wordG 40 d o.t o.i else if o.what = 8 then loosenG d o.t else if o.what = 9 then lookG 40 gl16 d o.t else if o.what = 10 then looksG 40 gl16 d else if o.what = 11 then dropG d o.p
 else if o.what = 12 then ⟨setGd 40 gl16 d.s o.t o.i o.v, d.T, d.l⟩ else if o.what = 13 then ⟨d.s, putT 8 d.T ⟨0, o.i, o.p, false, false, false, false⟩, d.l⟩ else d
def doV (d : Gd) (o : Gst) : Int := if o.what = 0 ∨ o.what = 1 then makeGV 40 gl16 d o.k else 0
def doB (d : Gd) (o : Gst) : Bool :=
 if o.what = 0 ∨ o.what = 1 then makeGB 40 gl16 d o.k else if o.what = 2 ∨ o.what = 3 then childB d.s o.p o.i o.t else if o.what = 4 ∨ o.what = 5 then leafB 40 d.s o.p o.i (24 + o.t % 16)
 else if o.what = 6 then clearB d.s o.p o.i else if o.what = 8 then loosenB d o.t else if o.what = 9 then looseB d o.t else if o.what = 11 then dropB d.s o.p
 else if o.what = 12 then hasG 40 gl16 o.t o.i else true
def opsG (d : Gd) (l : List Gst) : Gd := l.foldl doG d
theorem opsG_take {d : Gd} {l : List Gst} {k : Nat} {o : Gst} (h : l[k]? = some o) : opsG d (l.take (k + 1)) = doG (opsG d (l.take k)) o := by
 obtain ⟨h1, h2⟩ := List.getElem?_eq_some_iff.1 h
 rw [List.take_succ_eq_append_getElem h1, h2]
 unfold opsG; rw [List.foldl_append]; rfl
section
variable {w0 w w' : World} {dd gq mp q hp hb t wb : Nat} {d : Gd} {l : List Th}
set_option maxRecDepth 100000 in
set_option maxHeartbeats 1000000 in
theorem SepC.wList (H : SepC w0 w l) : Calls Tryz.prog 36 #[] w fun e w' => ∃ A c, e = .returned (.slice A 16 c) ∧ SepC w0 w' (ownT (numE .i64) 3 (.slice A 16 c) gl16 :: l) := by
 have hg : ∀ j : Nat, ((List.range (j + 1)).map fun (x : Nat) => 24 + (x : Int)) = ((List.range j).map fun (x : Nat) => 24 + (x : Int)) ++ [24 + (j : Int)] := fun j => by rw [List.range_succ, List.map_append]; rfl
 obtain ⟨K, hK0, hKe, hKs, hKl⟩ : ∃ K : Nat → List Int, K 0 = [] ∧ K 16 = gl16 ∧ (∀ j : Nat, K (j + 1) = K j ++ [24 + (j : Int)]) ∧ ∀ j, (K j).length = j := ⟨fun j => (List.range j).map fun (x : Nat) => 24 + (x : Int), rfl, rfl, hg, by simp⟩
 clear hg
 replace hK0 := Lib.hid hK0; replace hKe := Lib.hid hKe; replace hKs := Lib.hid hKs; replace hKl := Lib.hid hKl
 have H1 := H.ownNil (numE .i64) 3
 clear H
 go_enter Tryz.func36, Tryz.ntmps36
 go_wp2_with fail
 go_loopw [1, 2] (fun s1 s2 wr => ∃ (j : Nat) (A : Option Addr) (c : Nat), j ≤ 16 ∧ s1 = .slice A j c ∧ s2 = .int .i64 j ∧ SepC w0 wr (ownT (numE .i64) 3 (.slice A j c) (K j) :: l)) (fun _ s2 _ => 16 - (intOf s2).toNat)
 case atStart => exact ⟨0, none, 0, by omega, rfl, rfl, by rw [hK0.out]; exact H1⟩
 obtain ⟨j, A, c, hj, rfl, rfl, H⟩ := hrel
 clear H1
 by_cases hlt : j < 16
 ·have hltz : (j : Int) < 16 := by omega
  have hl := hKl.out j
  have hks := hKs.out j
  generalize K j = M at *
  replace hks := Lib.hid hks
  have ho := H.own
  have H2 := H.alloc #[.int .i64 (24 + (j : Int))] 3
  have ho4 := ho.new ((Chg.refl [] wr).alloc (.cells #[.int .i64 (24 + (j : Int))] 3))
  have hsrc : Src (wr.alloc (.cells #[.int .i64 (24 + (j : Int))] 3)) (numE .i64).k (some ⟨wr.heap.size, 0, none⟩) 1 1 ((numE .i64).all [24 + (j : Int)]) := (OwnG.lit (E := numE .i64) (L := [24 + (j : Int)]) (Blk.new wr 3 #[.int .i64 (24 + (j : Int))]) (by simp)).src
  clear H
  go_wp2_with (at_builtin; (refine wpList_append_G (E := numE .i64) rfl _ _ 56 rfl 3 (.int .i64 0) 8 Tryz.underlying56 int_info rfl (.slice A j c) M rfl ho4 (some ⟨wr.heap.size, 0, none⟩) 1 1 [24 + (j : Int)] rfl hsrc rfl (by omega) ?_); (intro v5 w5 ho5 hc5 hb5); (have H5 := (H2.pick 1 rfl).app ho5 hc5 hb5); (clear ho4 hsrc H2 ho); (obtain ⟨A5, c5, rfl, _, _⟩ := ho5.form); (clear ho5 hc5 hb5))
  rw [← hks.out] at H5
  have hl5 := hKl.out (j + 1)
  rw [hl5] at H5
  replace H5 := (H5.pick 1 rfl).tail
  clear hl5
  go_roundw
  case rel => exact ⟨j + 1, A5, c5, by omega, by (try simp), by go_num, H5⟩
  case measure => simp [intOf]; omega
 have ej : j = 16 := by omega
 subst ej
 have hltz : ¬ ((16 : Nat) : Int) < 16 := by omega
 rw [hKe.out] at H
 go_wp2_with fail
 go_ret
 exact ⟨A, c, rfl, H⟩
set_option maxHeartbeats 400000 in
theorem Great16_any (A : Option Addr) (n c : Nat) (B : Option Addr) (m e : Nat) (w : World) : Calls Tryz.prog 6 #[.slice A n c, .slice B m e] w fun x w' => x = .returned (.bool (decide (n > 600) || decide (m > 120))) ∧ w' = w := by
 by_cases h1 : n > 600
 ·have hz : (n : Int) > 600 := by omega
  rw [decide_eq_true h1, Bool.true_or]
  replace h1 := Lib.hid h1
  go_enter Tryz.func6, Tryz.ntmps6
  go_wp2_with fail
  go_ret
  exact ⟨rfl, rfl⟩
 have hz : ¬ (n : Int) > 600 := by omega
 rw [decide_eq_false h1, Bool.false_or]
 replace h1 := Lib.hid h1
 by_cases h2 : m > 120
 ·have hz2 : (m : Int) > 120 := by omega
  rw [decide_eq_true h2]
  replace h2 := Lib.hid h2
  go_enter Tryz.func6, Tryz.ntmps6
  go_wp2_with fail
  go_ret
  exact ⟨rfl, rfl⟩
 have hz2 : ¬ (m : Int) > 120 := by omega
 rw [decide_eq_false h2]
 replace h2 := Lib.hid h2
 go_enter Tryz.func6, Tryz.ntmps6
 go_wp2_with fail
 go_ret
 exact ⟨rfl, rfl⟩
def MadeP16 (w : World) (P : List Pu) (e : Ending) (w' : World) : Prop := ∃ wb dd gq mp q hp hb t, e = .returned (.pointer (some ⟨wb, 0, none⟩)) ∧ SepC w w' (gdT dd gq mp q hp hb t 40 4 8 8 gl16 (gd0 (madeG P)) :: blkT wb 46 (wdC hp gq q t dd) :: [])
set_option maxRecDepth 100000 in
set_option maxHeartbeats 4000000 in
theorem Made16_at {A : Option Addr} {n c : Nat} {P : List Pu} (hs : SlP w A n P) : Calls Tryz.prog 5 #[.slice A n c] w (MadeP16 w P) := by
 have hlen := hs.len; have hle := hs.le; have hwf := hs.wf
 replace hlen := Lib.hid hlen
 have hG0 := gd0_in (W := zeros (8 * 40)) (zeros_len _) (WdW.zeros_ _)
 have hN := fun z => New_at 40 z (by omega) (by omega)
 have hT := fun {z : World} {l_ : List Th} (H : SepC w z l_) => H.tNew 8 (by omega) (by omega)
 have hL := fun {z : World} {l_ : List Th} (H : SepC w z l_) => H.wList
 have hS := fun {z : World} {hp hb : Nat} {l_ : List Th} (H : SepC w z (hoT hp hb 40 (zeros (8 * 40)) :: l_)) => H.sNew (a := 4) (m := 8) (by omega)
 go_enter Tryz.func5, Tryz.ntmps5
 go_wp2_with fail
 refine (hN _).mono ?_; rintro e w1 ⟨hp, hb, rfl, y1, hm, g1, g2⟩
 clear hN
 have H1 := (SepC.nil w).lay (P := hoT hp hb 40 (zeros (8 * 40))) (S := [hb, hp]) y1 ⟨rfl, hm⟩ (by intro i_ hi_; simp only [List.mem_cons, List.not_mem_nil, or_false] at hi_; rcases hi_ with rfl | rfl <;> assumption)
 clear hm g1 g2 y1
 go_wp2_with fail
 refine (hL H1).mono ?_; rintro e w2 ⟨Al, cl, rfl, H2⟩
 clear H1 hL
 have hsl := (ownI_G.2 H2.own).slk (fun x hx => by have := gl16_in x hx; have h1 : IntKind.i64.min = -9223372036854775808 := rfl; have h2 : IntKind.i64.max = 9223372036854775807 := rfl; omega) (by decide)
 go_wp2_with fail
 refine (GNew_ok Al 16 cl gl16 40 w2 hsl gl16_ok).mono ?_; rintro e w3 ⟨mp, S, rfl, y3, hg3, hS3⟩
 have H3 := H2.lay (P := mapT mp gl16) (S := S) y3 hg3 hS3
 clear H2 hsl y3 hg3 hS3
 go_wp2_with fail
 refine (hT H3).mono ?_; rintro e w4 ⟨t, rfl, H4⟩
 clear hT H3
 go_wp2_with fail
 refine (hS (H4.pick 3 rfl)).mono ?_; rintro e w5 ⟨q, rfl, H5⟩
 clear hS H4
 go_wp2_with fail
 refine (GuNew_at mp hp w5).mono ?_; rintro e w6 ⟨gq, rfl, y6, hg6, hn6⟩
 have H6 := H5.lay (P := blkT gq 142 (guC mp hp)) (S := [gq]) y6 ⟨rfl, hg6⟩ (by simpa using hn6)
 clear H5 y6 hg6 hn6
 go_wp2_with fail
 refine (H6.gNew (gq := gq) (mp := mp) (q := q) (t := t)).mono ?_; rintro e w7 ⟨dd, rfl, H7⟩
 clear H6
 have H8 : SepC w w7 (blkT dd 96 (gdC gq mp q t (.slice none 0 0)) :: ownT (numE .i64) 3 (.slice none 0 0) [] :: stT q hp hb 40 4 8 ⟨[], dnk 4 8, zeros (8 * 40)⟩ :: tlbT t 8 [] :: mapT mp gl16 :: blkT gq 142 (guC mp hp) :: ownT (numE .i64) 3 (.slice Al 16 cl) gl16 :: []) := (((((H7.pick 2 rfl).pick 5 rfl).pick 5 rfl).pick 5 rfl).pick 5 rfl).pick 5 rfl
 have H9 : SepC w w7 (gdT dd gq mp q hp hb t 40 4 8 8 gl16 (gd0 (setsG (zeros (8 * 40)) (P.take 0))) :: ownT (numE .i64) 3 (.slice Al 16 cl) gl16 :: []) := SepC.gC (d := gd0 (zeros (8 * 40))) hG0 H8
 clear H7 H8 hG0
 have hSt := fun {z : World} (k : Nat) (x : Pu) (hx : P[k]? = some x) (H : SepC w z (gdT dd gq mp q hp hb t 40 4 8 8 gl16 (gd0 (setsG (zeros (8 * 40)) (P.take k))) :: ownT (numE .i64) 3 (.slice Al 16 cl) gl16 :: [])) => H.kSet x.g x.i x.v (hwf x (List.mem_of_getElem? hx))
 go_wp2_with fail
 go_loopw [9] (fun s9 wr => ∃ k : Nat, k ≤ n ∧ s9 = .int .i64 k ∧ SepC w wr (gdT dd gq mp q hp hb t 40 4 8 8 gl16 (gd0 (setsG (zeros (8 * 40)) (P.take k))) :: ownT (numE .i64) 3 (.slice Al 16 cl) gl16 :: [])) (fun s9 _ => n - (intOf s9).toNat)
 case atStart => exact ⟨0, Nat.zero_le _, rfl, H9⟩
 obtain ⟨k, hk, rfl, H⟩ := hrel
 clear H9
 by_cases hlt : k < n
 ·have hltz : (k : Int) < (n : Int) := by omega
  obtain ⟨b, off, x, rfl, _, hx, c0, c1, c2⟩ := (hs.self H.1).get hlt
  have hset := hSt k x hx (H.new (Chg.refl [] wr).drew)
  have hsn := setsG_snoc (W := zeros (8 * 40)) hx
  replace hsn := Lib.hid hsn
  clear H hx
  go_upto_region 16 with fail
  refine wp_region_still_tail 16 (by kernel_rfl) (by kernel_rfl) ?_
  simp only [List.take_succ_cons, List.take_zero, List.drop_succ_cons, List.drop_zero]
  change wpStill _ _ (World.drew _) _ _ _
  iterate 16 still_step
  refine wpStill_nil ?_
  change wpList _ _ _ _ _ (World.drew wr)
  go_wp2_with fail
  refine hset.mono ?_; rintro e w9 ⟨rfl, H9⟩
  clear hset c0 c1 c2
  go_wp2_with fail
  go_roundw
  case rel => exact ⟨k + 1, by omega, by go_num, by rw [hsn.out]; exact H9⟩
  case measure => simp [intOf]; omega
 have ek : k = n := by omega
 subst ek
 have hltz : ¬ (k : Int) < (k : Int) := by omega
 rw [List.take_of_length_le (Nat.le_of_eq hlen.out)] at H
 have H10 := (H.pick 1 rfl).tail.alloc (wdC hp gq q t dd) 46
 unfold wdC at H10
 clear H hSt
 go_wp2_with fail
 go_ret
 unfold MadeP16
 exact ⟨_, dd, gq, mp, q, hp, hb, t, rfl, H10.swap⟩
theorem SepC.merge {l2 : List Th} (H : SepC w0 w l) (H2 : SepC w w' l2) : SepC w0 w' (l2 ++ l) := by
 obtain ⟨h0, U, h⟩ := H
 obtain ⟨h1, V, h2⟩ := H2
 refine ⟨h0.trans h1 (by simp), V ++ U, h2.toN.join (fun i hi => ?_) (h.chg h1 (by simp))⟩
 have := h2.ge i hi
 exact ⟨Nat.le_trans h0.size this, fun hm => by have := h.lt i hm; omega⟩
end
end Go.Proofs.YtgjfidjhbkaobaaGreat
