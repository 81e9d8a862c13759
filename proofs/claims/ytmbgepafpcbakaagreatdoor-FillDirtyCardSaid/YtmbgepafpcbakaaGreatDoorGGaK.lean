/-
 GuardA, GuardX in one text.
-/
import Derived.Test.YtmbgepafpcbakaaGreatDoorGD3K
import Derived.Test.YtmbgepafpcbakaaGreatDoorPutsK
import Derived.Deep.CutRange
namespace Go.Proofs.YtmbgepafpcbakaaGreatDoor
open Go.RowKit Go.Maps
structure Gst where
 what : Int
 k : Ky
 p : Int
 i : Int
 t : Int
 r : Rg
 v : Int
def Gst.cs (o : Gst) : Array Value := #[.int .i64 o.what, .int .i64 o.k.g, .int .i64 o.k.lev, .int .i64 o.k.role, .int .i64 o.p, .int .i64 o.i, .int .i64 o.t, .bool o.r.w, .bool o.r.u, .bool o.r.x, .int .u64 o.v]
def gopE : Enc Gst := ⟨fun o => o.cs.toList, 11, by decide, fun _ => rfl, fun o u hu => by
 simp only [Gst.cs, List.mem_cons, List.not_mem_nil, or_false] at hu
 rcases hu with rfl | rfl | rfl | rfl | rfl | rfl | rfl | rfl | rfl | rfl | rfl <;> rfl⟩
def gl16 : List Int := (List.range 16).map fun (j : Nat) => 24 + (j : Int)
theorem gl16_in : InH 40 gl16 := by
 intro h hh
 unfold gl16 at hh
 rw [List.mem_map] at hh
 obtain ⟨j, hj, rfl⟩ := hh
 rw [List.mem_range] at hj
 omega
theorem gl16_ap : ∀ h ∈ gl16, ¬ (((4 : Nat) : Int) ≤ h ∧ h < ((4 : Nat) : Int) + (8 : Nat)) := by
 intro h hh
 unfold gl16 at hh
 rw [List.mem_map] at hh
 obtain ⟨j, hj, rfl⟩ := hh
 omega
theorem gl16_nd : gl16.Nodup := by
 unfold gl16
 rw [List.nodup_iff_pairwise_ne, List.pairwise_map]
 exact List.Pairwise.imp (fun h => by omega) (List.pairwise_lt_range (n := 16))
theorem gl16_ok : OkL gl16 40 := ⟨by decide, by decide, by omega, by omega, fun h hh => by have := gl16_in h hh; omega, gl16_nd⟩
def setsG (W : List Int) (l : List Pu) : List Int := l.foldl (fun W x => setG 40 W gl16 x.g x.i x.v) W
def madeG (l : List Pu) : List Int := setsG (zeros (8 * 40)) l
theorem setsG_snoc {W : List Int} {l : List Pu} {k : Nat} {x : Pu} (h : l[k]? = some x) : setsG W (l.take (k + 1)) = setG 40 (setsG W (l.take k)) gl16 x.g x.i x.v := by
 have hk := (List.getElem?_eq_some_iff.1 h).1
 rw [List.take_succ_eq_append_getElem hk, (List.getElem?_eq_some_iff.1 h).2]
 unfold setsG; rw [List.foldl_append]; rfl
def gd0 (W : List Int) : Gd := ⟨⟨[], dnk 4 8, W⟩, [], []⟩
theorem gd0_in {W : List Int} (hW : W.length = 8 * 40) (hw : WdW W) : GdIn 40 4 8 gl16 (gd0 W) :=
 ⟨⟨SrOk.new (by omega) (by omega) hW, gl16_in, gl16_ap, by omega, List.nodup_nil, by intro g hg; cases hg⟩, hw, by intro g hg; cases hg⟩
def wdC (hp gq q t dd : Nat) : Array Value := #[.pointer (some ⟨hp, 0, none⟩), .pointer (some ⟨gq, 0, none⟩), .pointer (some ⟨q, 0, none⟩), .pointer (some ⟨t, 0, none⟩), .pointer (some ⟨dd, 0, none⟩)]
section
variable {w0 w w' : World} {dd gq mp q hp hb t wb : Nat} {d : Gd} {l : List Th}
set_option maxRecDepth 100000 in
set_option maxHeartbeats 1000000 in
theorem SepC.wList (H : SepC w0 w l) : Calls Tryz.prog 48 #[] w fun e w' => ∃ A c, e = .returned (.slice A 16 c) ∧ SepC w0 w' (ownT (numE .i64) 3 (.slice A 16 c) gl16 :: l) := by
 have hg : ∀ j : Nat, ((List.range (j + 1)).map fun (x : Nat) => 24 + (x : Int)) = ((List.range j).map fun (x : Nat) => 24 + (x : Int)) ++ [24 + (j : Int)] := fun j => by rw [List.range_succ, List.map_append]; rfl
 obtain ⟨K, hK0, hKe, hKs, hKl⟩ : ∃ K : Nat → List Int, K 0 = [] ∧ K 16 = gl16 ∧ (∀ j : Nat, K (j + 1) = K j ++ [24 + (j : Int)]) ∧ ∀ j, (K j).length = j := ⟨fun j => (List.range j).map fun (x : Nat) => 24 + (x : Int), rfl, rfl, hg, by simp⟩
 clear hg
 replace hK0 := Lib.hid hK0; replace hKe := Lib.hid hKe; replace hKs := Lib.hid hKs; replace hKl := Lib.hid hKl
 have H1 := H.ownNil (numE .i64) 3
 clear H
 go_enter Tryz.func48, Tryz.ntmps48
 go_wp2_with fail
 go_loopw [1, 2] (fun s1 s2 wr => ∃ (j : Nat) (A : Option Addr) (c : Nat), j ≤ 16 ∧ s1 = .slice A j c ∧ s2 = .int .i64 j ∧ SepC w0 wr (ownT (numE .i64) 3 (.slice A j c) (K j) :: l)) (fun _ s2 _ => 16 - (intOf s2).toNat)
 case atStart => exact ⟨0, none, 0, by omega, rfl, rfl, by rw [hK0.out]; exact H1⟩
 obtain ⟨j, A, c, hj, rfl, rfl, H⟩ := hrel
 clear H1
 by_cases hlt : j < 16
 ·have hltz : (j : Int) < 16 := by omega
  have hl := hKl.out j
  have hks := hKs.out j
  generalize K j = M at *
  replace hks := Lib.hid hks
  have ho := H.own
  have H2 := H.alloc #[.int .i64 (24 + (j : Int))] 3
  have ho4 := ho.new ((Chg.refl [] wr).alloc (.cells #[.int .i64 (24 + (j : Int))] 3))
  have hsrc : Src (wr.alloc (.cells #[.int .i64 (24 + (j : Int))] 3)) (numE .i64).k (some ⟨wr.heap.size, 0, none⟩) 1 1 ((numE .i64).all [24 + (j : Int)]) := (OwnG.lit (E := numE .i64) (L := [24 + (j : Int)]) (Blk.new wr 3 #[.int .i64 (24 + (j : Int))]) (by simp)).src
  clear H
  go_wp2_with (at_builtin; (refine wpList_append_G (E := numE .i64) rfl _ _ 43 rfl 3 (.int .i64 0) 8 Tryz.underlying43 int_info rfl (.slice A j c) M rfl ho4 (some ⟨wr.heap.size, 0, none⟩) 1 1 [24 + (j : Int)] rfl hsrc rfl (by omega) ?_); (intro v5 w5 ho5 hc5 hb5); (have H5 := (H2.pick 1 rfl).app ho5 hc5 hb5); (clear ho4 hsrc H2 ho); (obtain ⟨A5, c5, rfl, _, _⟩ := ho5.form); (clear ho5 hc5 hb5))
  rw [← hks.out] at H5
  have hl5 := hKl.out (j + 1)
  rw [hl5] at H5
  replace H5 := (H5.pick 1 rfl).tail
  clear hl5
  go_roundw
  case rel => exact ⟨j + 1, A5, c5, by omega, by (try simp), by go_num, H5⟩
  case measure => simp [intOf]; omega
 have ej : j = 16 := by omega
 subst ej
 have hltz : ¬ ((16 : Nat) : Int) < 16 := by omega
 rw [hKe.out] at H
 go_wp2_with fail
 go_ret
 exact ⟨A, c, rfl, H⟩
def MadeP16 (w : World) (P : List Pu) (e : Ending) (w' : World) : Prop := ∃ wb dd gq mp q hp hb t, e = .returned (.pointer (some ⟨wb, 0, none⟩)) ∧ SepC w w' (gdT dd gq mp q hp hb t 40 4 8 8 gl16 (gd0 (madeG P)) :: blkT wb 51 (wdC hp gq q t dd) :: [])
set_option maxRecDepth 100000 in
set_option maxHeartbeats 4000000 in
theorem Made16_at {A : Option Addr} {n c : Nat} {P : List Pu} (hs : SlP w A n P) : Calls Tryz.prog 11 #[.slice A n c] w (MadeP16 w P) := by
 have hlen := hs.len; have hle := hs.le; have hwf := hs.wf
 replace hlen := Lib.hid hlen
 have hG0 := gd0_in (W := zeros (8 * 40)) (zeros_len _) (WdW.zeros_ _)
 have hN := fun z => New_at 40 z (by omega) (by omega)
 have hT := fun {z : World} {l_ : List Th} (H : SepC w z l_) => H.tNew 8 (by omega) (by omega)
 have hL := fun {z : World} {l_ : List Th} (H : SepC w z l_) => H.wList
 have hS := fun {z : World} {hp hb : Nat} {l_ : List Th} (H : SepC w z (hoT hp hb 40 (zeros (8 * 40)) :: l_)) => H.sNew (a := 4) (m := 8) (by omega)
 go_enter Tryz.func11, Tryz.ntmps11
 go_wp2_with fail
 refine (hN _).mono ?_; rintro e w1 ⟨hp, hb, rfl, y1, hm, g1, g2⟩
 clear hN
 have H1 := (SepC.nil w).lay (P := hoT hp hb 40 (zeros (8 * 40))) (S := [hb, hp]) y1 ⟨rfl, hm⟩ (by intro i_ hi_; simp only [List.mem_cons, List.not_mem_nil, or_false] at hi_; rcases hi_ with rfl | rfl <;> assumption)
 clear hm g1 g2 y1
 go_wp2_with fail
 refine (hL H1).mono ?_; rintro e w2 ⟨Al, cl, rfl, H2⟩
 clear H1 hL
 have hsl := (ownI_G.2 H2.own).slk (fun x hx => by have := gl16_in x hx; have h1 : IntKind.i64.min = -9223372036854775808 := rfl; have h2 : IntKind.i64.max = 9223372036854775807 := rfl; omega) (by decide)
 go_wp2_with fail
 refine (GNew_ok Al 16 cl gl16 40 w2 hsl gl16_ok).mono ?_; rintro e w3 ⟨mp, S, rfl, y3, hg3, hS3⟩
 have H3 := H2.lay (P := mapT mp gl16) (S := S) y3 hg3 hS3
 clear H2 hsl y3 hg3 hS3
 go_wp2_with fail
 refine (hT H3).mono ?_; rintro e w4 ⟨t, rfl, H4⟩
 clear hT H3
 go_wp2_with fail
 refine (hS (H4.pick 3 rfl)).mono ?_; rintro e w5 ⟨q, rfl, H5⟩
 clear hS H4
 go_wp2_with fail
 refine (GuNew_at mp hp w5).mono ?_; rintro e w6 ⟨gq, rfl, y6, hg6, hn6⟩
 have H6 := H5.lay (P := blkT gq 169 (guC mp hp)) (S := [gq]) y6 ⟨rfl, hg6⟩ (by simpa using hn6)
 clear H5 y6 hg6 hn6
 go_wp2_with fail
 refine (H6.gNew (gq := gq) (mp := mp) (q := q) (t := t)).mono ?_; rintro e w7 ⟨dd, rfl, H7⟩
 clear H6
 have H8 : SepC w w7 (blkT dd 144 (gdC gq mp q t (.slice none 0 0)) :: ownT (numE .i64) 3 (.slice none 0 0) [] :: stT q hp hb 40 4 8 ⟨[], dnk 4 8, zeros (8 * 40)⟩ :: tlbT t 8 [] :: mapT mp gl16 :: blkT gq 169 (guC mp hp) :: ownT (numE .i64) 3 (.slice Al 16 cl) gl16 :: []) := (((((H7.pick 2 rfl).pick 5 rfl).pick 5 rfl).pick 5 rfl).pick 5 rfl).pick 5 rfl
 have H9 : SepC w w7 (gdT dd gq mp q hp hb t 40 4 8 8 gl16 (gd0 (setsG (zeros (8 * 40)) (P.take 0))) :: ownT (numE .i64) 3 (.slice Al 16 cl) gl16 :: []) := SepC.gC (d := gd0 (zeros (8 * 40))) hG0 H8
 clear H7 H8 hG0
 have hSt := fun {z : World} (k : Nat) (x : Pu) (hx : P[k]? = some x) (H : SepC w z (gdT dd gq mp q hp hb t 40 4 8 8 gl16 (gd0 (setsG (zeros (8 * 40)) (P.take k))) :: ownT (numE .i64) 3 (.slice Al 16 cl) gl16 :: [])) => H.kSet x.g x.i x.v (hwf x (List.mem_of_getElem? hx))
 go_wp2_with fail
 go_loopw [9] (fun s9 wr => ∃ k : Nat, k ≤ n ∧ s9 = .int .i64 k ∧ SepC w wr (gdT dd gq mp q hp hb t 40 4 8 8 gl16 (gd0 (setsG (zeros (8 * 40)) (P.take k))) :: ownT (numE .i64) 3 (.slice Al 16 cl) gl16 :: [])) (fun s9 _ => n - (intOf s9).toNat)
 case atStart => exact ⟨0, Nat.zero_le _, rfl, H9⟩
 obtain ⟨k, hk, rfl, H⟩ := hrel
 clear H9
 by_cases hlt : k < n
 ·have hltz : (k : Int) < (n : Int) := by omega
  obtain ⟨b, off, x, rfl, _, hx, c0, c1, c2⟩ := (hs.self H.1).get hlt
  have hset := hSt k x hx (H.new (Chg.refl [] wr).drew)
  have hsn := setsG_snoc (W := zeros (8 * 40)) hx
  replace hsn := Lib.hid hsn
  clear H hx
  go_upto_region 16 with fail
  refine wp_region_still_tail 16 (by kernel_rfl) (by kernel_rfl) ?_
  simp only [List.take_succ_cons, List.take_zero, List.drop_succ_cons, List.drop_zero]
  change wpStill _ _ (World.drew _) _ _ _
  iterate 16 still_step
  refine wpStill_nil ?_
  change wpList _ _ _ _ _ (World.drew wr)
  go_wp2_with fail
  refine hset.mono ?_; rintro e w9 ⟨rfl, H9⟩
  clear hset c0 c1 c2
  go_wp2_with fail
  go_roundw
  case rel => exact ⟨k + 1, by omega, by go_num, by rw [hsn.out]; exact H9⟩
  case measure => simp [intOf]; omega
 have ek : k = n := by omega
 subst ek
 have hltz : ¬ (k : Int) < (k : Int) := by omega
 rw [List.take_of_length_le (Nat.le_of_eq hlen.out)] at H
 have H10 := (H.pick 1 rfl).tail.alloc (wdC hp gq q t dd) 51
 unfold wdC at H10
 clear H hSt
 go_wp2_with fail
 go_ret
 unfold MadeP16
 exact ⟨_, dd, gq, mp, q, hp, hb, t, rfl, H10.swap⟩
theorem SepC.merge {l2 : List Th} (H : SepC w0 w l) (H2 : SepC w w' l2) : SepC w0 w' (l2 ++ l) := by
 obtain ⟨h0, U, h⟩ := H
 obtain ⟨h1, V, h2⟩ := H2
 refine ⟨h0.trans h1 (by simp), V ++ U, h2.toN.join (fun i hi => ?_) (h.chg h1 (by simp))⟩
 have := h2.ge i hi
 exact ⟨Nat.le_trans h0.size this, fun hm => by have := h.lt i hm; omega⟩
end
theorem wdC_cells {w : World} {wb hp gq q t dd : Nat} {ty : TypeId} (h : Blk w wb ty (wdC hp gq q t dd)) : w.cell? ⟨wb, 0, none⟩ = some (.pointer (some ⟨hp, 0, none⟩)) ∧ w.cell? ⟨wb, 1, none⟩ = some (.pointer (some ⟨gq, 0, none⟩)) ∧ w.cell? ⟨wb, 2, none⟩ = some (.pointer (some ⟨q, 0, none⟩)) ∧
  w.cell? ⟨wb, 3, none⟩ = some (.pointer (some ⟨t, 0, none⟩)) ∧ w.cell? ⟨wb, 4, none⟩ = some (.pointer (some ⟨dd, 0, none⟩)) := ⟨h.cell 0, h.cell 1, h.cell 2, h.cell 3, h.cell 4⟩
section
variable {n a m : Nat} {L : List Int} {d : Gd} {s : Sr}
theorem SrOk.pageAt (h : SrOk n a m s) {j : Nat} (hj : j < s.L.length) : ∃ q, s.L[j]? = some q ∧ q ∈ s.L ∧ pgAt s.L q.f = some q ∧ keyV s.L q.f = q.k ∧ i64B q.f ∧ (s.L.map Pg.f)[j]? = some q.f := by
 have hq : s.L[j]? = some s.L[j] := List.getElem?_eq_getElem hj
 have hm := List.getElem_mem hj
 have h1 := h.inL hm; have h2 := h.le; have h3 := h.n256
 refine ⟨_, hq, hm, h.at_ hm, ?_, by unfold i64B; omega, by rw [List.getElem?_map, hq]; rfl⟩
 unfold keyV; rw [h.at_ hm]; rfl
end
end Go.Proofs.YtmbgepafpcbakaaGreatDoor
