/-
 RgK, RgM in one text.
-/
import Derived.Test.YtgjfidjhbkaobaaGreatGRaK
import Derived.Test.YtgjfidjhbkaobaaGreatRgHK
import Derived.Test.YtgjfidjhbkaobaaGreatRgIK
import Derived.Test.YtgjfidjhbkaobaaGreatRgJK
import Derived.Test.YtgjfidjhbkaobaaGreatGuardAK
namespace Go.Proofs.YtgjfidjhbkaobaaGreat
open Go.RowKit Go.Maps
def rgdL (dd gq mp q rp rb t n a m most : Nat) (L : List Int) (d : Gd) (v : Value) : List Th :=
 [blkT dd 99 (gdC gq mp q t v), ownT (numE .i64) 3 v d.l, rstT q rp rb n a m d.s, rtlbT t most d.T, rmapT mp L, blkT gq 147 (rguC mp rp)]
def rgdT (dd gq mp q rp rb t n a m most : Nat) (L : List Int) (d : Gd) : Th := packT (GdIn n a m L d) (rgdL dd gq mp q rp rb t n a m most L d)
section
variable {w0 w w' : World} {dd gq mp q rp rb t n a m most : Nat} {L : List Int} {v : Value} {s : Sr} {T : List Ht} {ll : List Int} {l : List Th} {d : Gd}
variable {hp hb : Nat}
theorem SepC.rgO (H : SepC w0 w (rgdT dd gq mp q rp rb t n a m most L (d) :: l)) : GdIn n a m L d ∧ ∃ v, SepC w0 w (blkT dd 99 (gdC gq mp q t (v)) :: ownT (numE .i64) 3 (v) ((d).l) :: rstT q rp rb n a m ((d).s) :: rtlbT t most ((d).T) :: rmapT mp L :: blkT gq 147 (rguC mp rp) :: l) := H.open_
theorem SepC.rgC (G : GdIn n a m L d) (H : SepC w0 w (blkT dd 99 (gdC gq mp q t (v)) :: ownT (numE .i64) 3 (v) ((d).l) :: rstT q rp rb n a m ((d).s) :: rtlbT t most ((d).T) :: rmapT mp L :: blkT gq 147 (rguC mp rp) :: l)) : SepC w0 w (rgdT dd gq mp q rp rb t n a m most L (d) :: l) := H.shut (F := rgdL dd gq mp q rp rb t n a m most L d) G v
theorem SepC.rkMake (H : SepC w0 w (rgdT dd gq mp q rp rb t n a m most L (d) :: l)) (k : Ky) : Calls Tryz.prog 53 #[.pointer (some ⟨dd, 0, none⟩), .agg k.cs] w fun e w' => e = .returned (.tuple #[.int .i64 (makeGV n L d k), .bool (makeGB n L d k)]) ∧ SepC w0 w' (rgdT dd gq mp q rp rb t n a m most L (makeG n L d k) :: l) := by
 obtain ⟨G, v, H1⟩ := H.rgO
 exact (H1.rgMake G k).mono fun _ _ ⟨he, _, H2⟩ => ⟨he, H2.rgC (G.make k)⟩
theorem SepC.rkDrop (H : SepC w0 w (rgdT dd gq mp q rp rb t n a m most L (d) :: l)) (p : Int) : Calls Tryz.prog 61 #[.pointer (some ⟨dd, 0, none⟩), .int .i64 p] w fun e w' => e = .returned (.bool (dropB d.s p)) ∧ SepC w0 w' (rgdT dd gq mp q rp rb t n a m most L (dropG d p) :: l) := by
 obtain ⟨G, v, H1⟩ := H.rgO
 exact (H1.rgDrop G p).mono fun _ _ ⟨he, _, H2⟩ => ⟨he, H2.rgC (G.drop p)⟩
theorem SepC.rkZap (H : SepC w0 w (rgdT dd gq mp q rp rb t n a m most L (d) :: l)) (p i : Int) : Calls Tryz.prog 56 #[.pointer (some ⟨dd, 0, none⟩), .int .i64 p, .int .i64 i] w fun e w' => e = .returned (.bool (clearB d.s p i)) ∧ SepC w0 w' (rgdT dd gq mp q rp rb t n a m most L (zapG n d p i) :: l) := by
 obtain ⟨G, v, H1⟩ := H.rgO
 exact (H1.rgZap p i).mono fun _ _ ⟨he, H2⟩ => ⟨he, H2.rgC (G.zap p i)⟩
theorem SepC.rkWord (H : SepC w0 w (rgdT dd gq mp q rp rb t n a m most L (d) :: l)) (g i : Int) : Calls Tryz.prog 57 #[.pointer (some ⟨dd, 0, none⟩), .int .i64 g, .int .i64 i] w fun e w' => e = .returned (.tuple #[]) ∧ SepC w0 w' (rgdT dd gq mp q rp rb t n a m most L (wordG n d g i) :: l) := by
 obtain ⟨G, v, H1⟩ := H.rgO
 exact (H1.rgWord G.ok.sr g i).mono fun _ _ ⟨he, H2⟩ => ⟨he, H2.rgC (G.word g i)⟩
theorem SepC.rkLoosen (H : SepC w0 w (rgdT dd gq mp q rp rb t n a m most L (d) :: l)) (g : Int) (hg : i64B g) : Calls Tryz.prog 58 #[.pointer (some ⟨dd, 0, none⟩), .int .i64 g] w fun e w' => e = .returned (.bool (loosenB d g)) ∧ SepC w0 w' (rgdT dd gq mp q rp rb t n a m most L (loosenG d g) :: l) := by
 obtain ⟨G, v, H1⟩ := H.rgO
 exact (H1.rgLoosen G g).mono fun _ _ ⟨he, _, H2⟩ => ⟨he, H2.rgC (G.loosen hg)⟩
theorem SepC.rkLook (H : SepC w0 w (rgdT dd gq mp q rp rb t n a m most L (d) :: l)) (g : Int) : Calls Tryz.prog 59 #[.pointer (some ⟨dd, 0, none⟩), .int .i64 g] w fun e w' => e = .returned (.bool (looseB d g)) ∧ SepC w0 w' (rgdT dd gq mp q rp rb t n a m most L (lookG n L d g) :: l) := by
 obtain ⟨G, v, H1⟩ := H.rgO
 exact (H1.rgLook G g).mono fun _ _ ⟨he, _, H2⟩ => ⟨he, H2.rgC (G.look g)⟩
theorem SepC.rkAll (H : SepC w0 w (rgdT dd gq mp q rp rb t n a m most L (d) :: l))  : Calls Tryz.prog 60 #[.pointer (some ⟨dd, 0, none⟩)] w fun e w' => e = .returned (.tuple #[]) ∧ SepC w0 w' (rgdT dd gq mp q rp rb t n a m most L (looksG n L d) :: l) := by
 obtain ⟨G, v, H1⟩ := H.rgO
 exact (H1.rgAll G).mono fun _ _ ⟨he, _, H2⟩ => ⟨he, H2.rgC (GdIn.looks _ G)⟩
theorem SepC.rkProt (H : SepC w0 w (rgdT dd gq mp q rp rb t n a m most L (d) :: l)) (g : Int) : Calls Tryz.prog 11 #[.pointer (some ⟨dd, 0, none⟩), .int .i64 g] w fun e w' => e = .returned (.bool (protB d g)) ∧ SepC w0 w' (rgdT dd gq mp q rp rb t n a m most L (d) :: l) := by
 obtain ⟨G, v, H1⟩ := H.rgO
 exact (H1.rgProt g).mono fun _ _ ⟨he, H2⟩ => ⟨he, H2.rgC (G)⟩
theorem SepC.rkLoose (H : SepC w0 w (rgdT dd gq mp q rp rb t n a m most L (d) :: l)) (g : Int) : Calls Tryz.prog 13 #[.pointer (some ⟨dd, 0, none⟩), .int .i64 g] w fun e w' => e = .returned (.bool (looseB d g)) ∧ w' = w := by
 obtain ⟨G, v, H1⟩ := H.rgO
 exact H1.rgLoose g
theorem SepC.rkList (H : SepC w0 w (rgdT dd gq mp q rp rb t n a m most L (d) :: l))  : Calls Tryz.prog 16 #[.pointer (some ⟨dd, 0, none⟩)] w fun e w' => ∃ A c, e = .returned (.slice A (d.l).length c) ∧ SepC w0 w' (ownT (numE .i64) 3 (.slice A (d.l).length c) (d.l) :: rgdT dd gq mp q rp rb t n a m most L (d) :: l) := by
 obtain ⟨G, v, H1⟩ := H.rgO
 exact (H1.rgList (by have := G.len; omega)).mono fun _ _ ⟨A, c, he, H2⟩ => ⟨A, c, he, ((SepC.mv6 H2).rgC G).swap⟩
theorem SepC.rkReach (H : SepC w0 w (rgdT dd gq mp q rp rb t n a m most L (d) :: l)) (root p i : Int) : Calls Tryz.prog 26 #[.pointer (some ⟨dd, 0, none⟩), .int .i64 root, .int .i64 p, .int .i64 i] w fun e w' => ∃ A c, e = .returned (.slice A (reachP d.s.L root p i).length c) ∧ SepC w0 w' (ownT (numE .i64) 3 (.slice A (reachP d.s.L root p i).length c) (reachP d.s.L root p i) :: rgdT dd gq mp q rp rb t n a m most L (d) :: l) := by
 obtain ⟨G, v, H1⟩ := H.rgO
 exact (H1.rgReach root p i).mono fun _ _ ⟨A, c, he, H2⟩ => ⟨A, c, he, ((SepC.mv6 H2).rgC G).swap⟩
theorem SepC.rkChild (H : SepC w0 w (rgdT dd gq mp q rp rb t n a m most L (d) :: l)) (p i c : Int) (r : Rg) : Calls Tryz.prog 54 #[.pointer (some ⟨q, 0, none⟩), .int .i64 p, .int .i64 i, .int .i64 c, .agg r.cs] w fun e w' => e = .returned (.bool (childB d.s p i c)) ∧ SepC w0 w' (rgdT dd gq mp q rp rb t n a m most L (⟨childS n d.s p i c r, d.T, d.l⟩) :: l) := by
 obtain ⟨G, v, H1⟩ := H.rgO
 exact (H1.at2.rChild p i c r).mono fun _ _ ⟨he, H2⟩ => ⟨he, SepC.rgC (d := ⟨childS n d.s p i c r, d.T, d.l⟩) (G.child p i c r) H2.bk2⟩
theorem SepC.rkLeaf (H : SepC w0 w (rgdT dd gq mp q rp rb t n a m most L (d) :: l)) (p i g x : Int) (r : Rg) : Calls Tryz.prog 55 #[.pointer (some ⟨q, 0, none⟩), .int .i64 p, .int .i64 i, .int .i64 g, .int .i64 x, .agg r.cs] w fun e w' => e = .returned (.bool (leafB n d.s p i x)) ∧ SepC w0 w' (rgdT dd gq mp q rp rb t n a m most L (⟨leafS n d.s p i g x r, d.T, d.l⟩) :: l) := by
 obtain ⟨G, v, H1⟩ := H.rgO
 exact (H1.at2.rLeaf p i g x r).mono fun _ _ ⟨he, H2⟩ => ⟨he, SepC.rgC (d := ⟨leafS n d.s p i g x r, d.T, d.l⟩) (G.leaf p i g x r) H2.bk2⟩
theorem SepC.rkSet (H : SepC w0 w (rgdT dd gq mp q rp rb t n a m most L (d) :: l)) (g i x : Int) (hx : 0 ≤ x ∧ x < 18446744073709551616) : Calls Tryz.prog 47 #[.pointer (some ⟨gq, 0, none⟩), .int .i64 g, .int .i64 i, .int .u64 x] w fun e w' => e = .returned (.bool (hasG n L g i)) ∧ SepC w0 w' (rgdT dd gq mp q rp rb t n a m most L (⟨setGd n L d.s g i x, d.T, d.l⟩) :: l) := by
 obtain ⟨G, v, H1⟩ := H.rgO
 exact (H1.rgSet G.ok.map G.ok.ap g i x).mono fun _ _ ⟨he, H2⟩ => ⟨he, SepC.rgC (d := ⟨setGd n L d.s g i x, d.T, d.l⟩) (G.guest g i x hx) H2⟩
theorem SepC.rkPut (H : SepC w0 w (rgdT dd gq mp q rp rb t n a m most L (d) :: l)) (x : Ht) : Calls Tryz.prog 62 #[.pointer (some ⟨t, 0, none⟩), x.v] w fun e w' => e = .returned (.tuple #[]) ∧ SepC w0 w' (rgdT dd gq mp q rp rb t n a m most L (⟨d.s, putT most d.T x, d.l⟩) :: l) := by
 obtain ⟨G, v, H1⟩ := H.rgO
 exact (H1.at3.rtPut x).mono fun _ _ ⟨he, H2⟩ => ⟨he, SepC.rgC (d := ⟨d.s, putT most d.T x, d.l⟩) (G.tlb _) H2.bk3⟩
theorem SepC.rkPages (H : SepC w0 w (rgdT dd gq mp q rp rb t n a m most L (d) :: l))  : Calls Tryz.prog 21 #[.pointer (some ⟨q, 0, none⟩)] w fun e w' => ∃ A c, e = .returned (.slice A (d.s.L.map Pg.f).length c) ∧ SepC w0 w' (ownT (numE .i64) 3 (.slice A (d.s.L.map Pg.f).length c) (d.s.L.map Pg.f) :: rgdT dd gq mp q rp rb t n a m most L (d) :: l) := by
 obtain ⟨G, v, H1⟩ := H.rgO
 exact (H1.at2.rAll).mono fun _ _ ⟨A, c, he, H2⟩ => ⟨A, c, he, ((SepC.mv6 (((H2.pick 3 rfl).pick 3 rfl).pick 2 rfl)).rgC G).swap⟩
theorem SepC.rkHits (H : SepC w0 w (rgdT dd gq mp q rp rb t n a m most L (d) :: l)) : Calls Tryz.prog 19 #[.pointer (some ⟨t, 0, none⟩)] w fun e w' => ∃ v, e = .returned v ∧ SepC w0 w' (hitsT v d.T :: rgdT dd gq mp q rp rb t n a m most L (d) :: l) := by
 obtain ⟨G, v, H1⟩ := H.rgO
 exact H1.at3.rtList.mono fun _ _ ⟨u, he, H2⟩ => ⟨u, he, ((SepC.mv6 ((((H2.pick 4 rfl).pick 4 rfl).pick 4 rfl).pick 3 rfl)).rgC G).swap⟩
theorem SepC.rkMem (H : SepC w0 w (rgdT dd gq mp q rp rb t n a m most L (d) :: l)) : RMemAt w rp rb n d.s.W := by
 obtain ⟨G, v, H1⟩ := H.rgO
 exact H1.at2.rmem
theorem SepC.kHits (H : SepC w0 w (gdT dd gq mp q hp hb t n a m most L (d) :: l)) : Calls Tryz.prog 18 #[.pointer (some ⟨t, 0, none⟩)] w fun e w' => ∃ v, e = .returned v ∧ SepC w0 w' (hitsT v d.T :: gdT dd gq mp q hp hb t n a m most L (d) :: l) := by
 obtain ⟨G, v, H1⟩ := H.gO
 exact H1.at3.tList.mono fun _ _ ⟨u, he, H2⟩ => ⟨u, he, ((SepC.mv6 ((((H2.pick 4 rfl).pick 4 rfl).pick 4 rfl).pick 3 rfl)).gC G).swap⟩
end
theorem gd0_sets : ∀ (P : List Pu) (W : List Int), GdIn 40 4 8 gl16 (gd0 W) → (∀ x ∈ P, 0 ≤ x.v ∧ x.v < 18446744073709551616) → GdIn 40 4 8 gl16 (gd0 (setsG W P))
 | [], _, h, _ => h
 | x :: P, _, h, hP => gd0_sets P _ (h.guest x.g x.i x.v (hP x (by simp))) fun y hy => hP y (by simp [hy])
section
variable {w0 w w' : World} {dd gq mp q rp rb t n a m most : Nat} {L : List Int} {v : Value} {s : Sr} {T : List Ht} {ll : List Int} {l : List Th} {d : Gd}
theorem SepC.rSet0 (H : SepC w0 w (rstT q rp rb n a m s :: rmapT mp L :: blkT gq 147 (rguC mp rp) :: l)) (hi : InH n L) (ha : ∀ h ∈ L, ¬ ((a : Int) ≤ h ∧ h < a + m)) (g i x : Int) : Calls Tryz.prog 47 #[.pointer (some ⟨gq, 0, none⟩), .int .i64 g, .int .i64 i, .int .u64 x] w fun e w' => e = .returned (.bool (hasG n L g i)) ∧ SepC w0 w' (rstT q rp rb n a m (setGd n L s g i x) :: rmapT mp L :: blkT gq 147 (rguC mp rp) :: l) := by
 have h : ∃ S, RGuIn w gq S mp L rp rb n s.W := by
  obtain ⟨S, h, _⟩ := (H.pick 1 rfl).fst
  exact ⟨S, (H.pick 2 rfl).blk, h, H.rmem, hi⟩
 obtain ⟨S, h⟩ := h
 have hc := RGuSet_at gq S mp L rp rb n s.W g i x w h
 refine H.rCall (s1 := setGd n L s g i x) (fun ok => ok.guest hi ha g i x) fun fp LA lc R FS hx => ?_
 exact hc.mono fun _ _ ⟨he, y, hg⟩ => ⟨he, LA, lc, R, FS, hx.words y hg.hm, y.weak (fun i _ hi => by simp at hi; simp [hi]), fun _ h => .inl h, RNew.refl _ _⟩
def ToldP16 (w : World) (P : List Pu) (e : Ending) (w' : World) : Prop := ∃ pb dd gq mp q rp rb t, e = .returned (.pointer (some ⟨pb, 0, none⟩)) ∧ SepC w w' (rgdT dd gq mp q rp rb t 40 4 8 8 gl16 (gd0 (madeG P)) :: blkT pb 54 (wdC rp gq q t dd) :: [])
set_option maxRecDepth 100000 in
set_option maxHeartbeats 4000000 in
theorem Told16_at {A : Option Addr} {n c : Nat} {P : List Pu} (hs : SlP w A n P) : Calls Tryz.prog 7 #[.slice A n c] w (ToldP16 w P) := by
 have hlen := hs.len; have hle := hs.le; have hwf := hs.wf
 have hG1 := gd0_sets P _ (gd0_in (W := zeros (8 * 40)) (zeros_len _) (WdW.zeros_ _)) hwf
 replace hlen := Lib.hid hlen
 have hN := fun z => RNew_at 40 z (by omega) (by omega)
 have hT := fun {z : World} {l_ : List Th} (H : SepC w z l_) => H.rtNew 8 (by omega) (by omega)
 have hL := fun {z : World} {l_ : List Th} (H : SepC w z l_) => H.wList
 have hS := fun {z : World} {rp rb : Nat} {l_ : List Th} (H : SepC w z (rhoT rp rb 40 (zeros (8 * 40)) :: l_)) => H.rNew (a := 4) (m := 8) (by omega)
 go_enter Tryz.func7, Tryz.ntmps7
 go_wp2_with fail
 refine (hN _).mono ?_; rintro e w1 ⟨rp, rb, rfl, y1, hm, g1, g2⟩
 clear hN
 have H1 := (SepC.nil w).lay (P := rhoT rp rb 40 (zeros (8 * 40))) (S := [rb, rp]) y1 ⟨rfl, hm⟩ (by intro i_ hi_; simp only [List.mem_cons, List.not_mem_nil, or_false] at hi_; rcases hi_ with rfl | rfl <;> assumption)
 clear hm g1 g2 y1
 go_wp2_with fail
 refine (hL H1).mono ?_; rintro e w2 ⟨Al, cl, rfl, H2⟩
 clear H1 hL
 have hsl := (ownI_G.2 H2.own).slk (fun x hx => by have := gl16_in x hx; have h1 : IntKind.i64.min = -9223372036854775808 := rfl; have h2 : IntKind.i64.max = 9223372036854775807 := rfl; omega) (by decide)
 go_wp2_with fail
 refine (RGNew_ok Al 16 cl gl16 40 w2 hsl gl16_ok).mono ?_; rintro e w3 ⟨mp, S, rfl, y3, hg3, hS3⟩
 have H3 := H2.lay (P := rmapT mp gl16) (S := S) y3 hg3 hS3
 clear H2 hsl y3 hg3 hS3
 go_wp2_with fail
 refine (RGuNew_at mp rp w3).mono ?_; rintro e w4 ⟨gq, rfl, y4, hg4, hn4⟩
 have H4 := H3.lay (P := blkT gq 147 (rguC mp rp)) (S := [gq]) y4 ⟨rfl, hg4⟩ (by simpa using hn4)
 clear H3 y4 hg4 hn4
 go_wp2_with fail
 refine (hS (H4.pick 3 rfl)).mono ?_; rintro e w5 ⟨q, rfl, H5⟩
 clear hS H4
 go_wp2_with fail
 refine (hT H5).mono ?_; rintro e w6 ⟨t, rfl, H6⟩
 clear hT H5
 have H7 : SepC w w6 (rstT q rp rb 40 4 8 ⟨[], dnk 4 8, setsG (zeros (8 * 40)) (P.take 0)⟩ :: rmapT mp gl16 :: blkT gq 147 (rguC mp rp) :: rtlbT t 8 [] :: ownT (numE .i64) 3 (.slice Al 16 cl) gl16 :: []) := (((H6.pick 2 rfl).pick 3 rfl).pick 3 rfl)
 clear H6
 have hSt := fun {z : World} (k : Nat) (x : Pu) (hx : P[k]? = some x) (H : SepC w z (rstT q rp rb 40 4 8 ⟨[], dnk 4 8, setsG (zeros (8 * 40)) (P.take k)⟩ :: rmapT mp gl16 :: blkT gq 147 (rguC mp rp) :: rtlbT t 8 [] :: ownT (numE .i64) 3 (.slice Al 16 cl) gl16 :: [])) => H.rSet0 gl16_in gl16_ap x.g x.i x.v
 go_wp2_with fail
 go_loopw [8] (fun s8 wr => ∃ k : Nat, k ≤ n ∧ s8 = .int .i64 k ∧ SepC w wr (rstT q rp rb 40 4 8 ⟨[], dnk 4 8, setsG (zeros (8 * 40)) (P.take k)⟩ :: rmapT mp gl16 :: blkT gq 147 (rguC mp rp) :: rtlbT t 8 [] :: ownT (numE .i64) 3 (.slice Al 16 cl) gl16 :: [])) (fun s8 _ => n - (intOf s8).toNat)
 case atStart => exact ⟨0, Nat.zero_le _, rfl, H7⟩
 obtain ⟨k, hk, rfl, H⟩ := hrel
 clear H7
 by_cases hlt : k < n
 ·have hltz : (k : Int) < (n : Int) := by omega
  obtain ⟨b, off, x, rfl, _, hx, c0, c1, c2⟩ := (hs.self H.1).get hlt
  have hset := hSt k x hx (H.new (Chg.refl [] wr).drew)
  have hsn := setsG_snoc (W := zeros (8 * 40)) hx
  replace hsn := Lib.hid hsn
  clear H hx
  go_upto_region 9 with fail
  refine wp_region_still_tail 16 (by kernel_rfl) (by kernel_rfl) ?_
  simp only [List.take_succ_cons, List.take_zero, List.drop_succ_cons, List.drop_zero]
  change wpStill _ _ (World.drew _) _ _ _
  iterate 16 still_step
  refine wpStill_nil ?_
  change wpList _ _ _ _ _ (World.drew wr)
  go_wp2_with fail
  refine hset.mono ?_; rintro e w9 ⟨rfl, H9⟩
  clear hset c0 c1 c2
  go_wp2_with fail
  go_roundw
  case rel => exact ⟨k + 1, by omega, by go_num, by rw [hsn.out]; exact H9⟩
  case measure => simp [intOf]; omega
 have ek : k = n := by omega
 subst ek
 have hltz : ¬ (k : Int) < (k : Int) := by omega
 rw [List.take_of_length_le (Nat.le_of_eq hlen.out)] at H
 clear hSt
 have hNw := H.rgNew (gq := gq) (mp := mp) (q := q) (t := t)
 go_wp2_with fail
 refine hNw.mono ?_; rintro e w7 ⟨dd, rfl, H8⟩
 clear hNw H
 have H9 : SepC w w7 (blkT dd 99 (gdC gq mp q t (.slice none 0 0)) :: ownT (numE .i64) 3 (.slice none 0 0) [] :: rstT q rp rb 40 4 8 ⟨[], dnk 4 8, madeG P⟩ :: rtlbT t 8 [] :: rmapT mp gl16 :: blkT gq 147 (rguC mp rp) :: ownT (numE .i64) 3 (.slice Al 16 cl) gl16 :: []) := (((H8.pick 5 rfl).pick 3 rfl).pick 3 rfl).pick 3 rfl
 have H10 : SepC w w7 (rgdT dd gq mp q rp rb t 40 4 8 8 gl16 (gd0 (madeG P)) :: ownT (numE .i64) 3 (.slice Al 16 cl) gl16 :: []) := SepC.rgC (d := gd0 (madeG P)) hG1 H9
 clear H8 H9
 have H11 := (H10.pick 1 rfl).tail.alloc (wdC rp gq q t dd) 54
 unfold wdC at H11
 clear H10
 go_wp2_with fail
 go_ret
 unfold ToldP16
 exact ⟨_, dd, gq, mp, q, rp, rb, t, rfl, H11.swap⟩
end
end Go.Proofs.YtgjfidjhbkaobaaGreat
