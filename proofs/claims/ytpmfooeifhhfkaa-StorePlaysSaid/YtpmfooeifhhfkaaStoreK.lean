/-
  The contract of package store's Make.
-/
import Derived.Test.YtpmfooeifhhfkaaStoreJ
namespace Go.Proofs.Ytpmfooeifhhfkaa
open Go.RowKit Go.Maps

theorem setP_no {L : List Pg} {f : Int} {i : Nat} (h : ∀ p ∈ L, p.f = f → p.s[i]? = some Slt.no) : setP L f i Slt.no = L := by
  unfold setP
  conv => rhs; rw [← List.map_id L]
  apply List.map_congr_left
  intro p hp
  split
  · rename_i e
    obtain ⟨h1, h2⟩ := List.getElem?_eq_some_iff.1 (h p hp e)
    rw [← h2, List.set_getElem_self]; rfl
  · rfl
theorem wordS_no (f : Int) : wordS Slt.no f = 0 := rfl
/-- a page is new: all its slots are laid empty -/
theorem make_empty {n a m : Nat} {s : Sr} {k : Ky} (hok : SrOk n a m s) (hb : makeB s k = true) :
    emptyS n ⟨s.L ++ [⟨s.fr.getLastD 0, k, List.replicate 8 Slt.no⟩], s.fr.dropLast, s.W⟩ (s.fr.getLastD 0) 8 = makeS n s k := by
  obtain ⟨_, _, e⟩ := makeB_has hb
  generalize hf : s.fr.getLastD 0 = f at *
  have hmem : f ∈ s.fr := by rw [e]; simp
  have hbd := hok.mem f (by simp [hmem])
  have hle := hok.le
  have hnot : ∀ p ∈ s.L, p.f ≠ f := fun p hp e2 => by
    have := (List.nodup_append.1 hok.nd).2.2 p.f (List.mem_map.2 ⟨p, hp, rfl⟩) f hmem
    exact this e2
  have hL : ∀ i, i < 8 → setP (s.L ++ [⟨f, k, List.replicate 8 Slt.no⟩]) f i Slt.no = s.L ++ [⟨f, k, List.replicate 8 Slt.no⟩] := fun i hi => setP_no fun p hp e2 => by
    rcases List.mem_append.1 hp with h | h
    · exact absurd e2 (hnot p h)
    · rw [List.mem_singleton] at h; subst h
      show (List.replicate 8 Slt.no)[i]? = some Slt.no
      rw [List.getElem?_replicate, if_pos hi]
  obtain ⟨F, rfl⟩ := Int.eq_ofNat_of_zero_le (show 0 ≤ f by omega)
  have hW : ∀ (W : List Int) (i : Nat), i < 8 → setW n W (F : Int) (i : Int) 0 = W.set (F * 8 + i) 0 := fun W i hi => by
    unfold setW
    rw [if_pos (by unfold hasW; rw [decide_eq_true_eq]; omega)]; simp
  have hF : fillW n s.W (F : Int) (zeros 8) = setAll s.W (F * 8) (zeros 8) := by
    unfold fillW
    rw [if_pos (by unfold fillB hasF; simp [zeros_len]; omega)]; simp
  have hm : makeS n s k = ⟨s.L ++ [⟨(F : Int), k, List.replicate 8 Slt.no⟩], s.fr.dropLast, fillW n s.W (F : Int) (zeros 8)⟩ := by
    unfold makeS; rw [if_pos hb, hf]
  rw [hm, hF]
  simp only [emptyS, setS, wordS_no, Int.toNat_natCast]
  rw [hL 0 (by omega), hL 1 (by omega), hL 2 (by omega), hL 3 (by omega), hL 4 (by omega), hL 5 (by omega), hL 6 (by omega), hL 7 (by omega)]
  rw [hW _ 0 (by omega), hW _ 1 (by omega), hW _ 2 (by omega), hW _ 3 (by omega), hW _ 4 (by omega), hW _ 5 (by omega), hW _ 6 (by omega), hW _ 7 (by omega)]
  rfl

theorem ownI_G {w : World} {t : TypeId} {k : IntKind} {v : Value} {L : List Int} : OwnI w t k v L ↔ OwnG (numE k) w t v L := by
  unfold OwnI OwnG; rw [numE_all]; rfl

section
variable {q hp hb n a m fp mp : Nat} {s : Sr} {FS B : List Nat} {v : Value}
/-- what is left of a store in which its list of free frames has turned -/
structure StPre (w : World) (q hp hb n a m : Nat) (s : Sr) (fr : List Int) (fp mp : Nat) (FS : List Nat) (v : Value) (B : List Nat) : Prop where
  st : Blk w q 90 #[.pointer (some ⟨hp, 0, none⟩), .pointer (some ⟨fp, 0, none⟩), .map (some mp), v]
  fl : FAt w FS fp a m fr
  mp_ : PtrM Try.prog 3 w mp s.L.length (blkF s.L B)
  od : OwnI w 3 .i64 v (s.L.map Pg.f)
  pg : ∀ (i : Nat) (p : Pg) (b : Nat), s.L[i]? = some p → B[i]? = some b → PgB w b p
  hm : MemAt w hp hb n s.W
theorem StX.taken {w w' : World} {fr : List Int} (h : StX w q hp hb n a m s fp mp FS v B) (hc : Chg FS w w') (hf : FAt w' FS fp a m fr) : StPre w' q hp hb n a m s fr fp mp FS v B :=
  ⟨hc.blk h.st h.fs.1, hf, h.mp_.chg hc h.fs.2.1, h.od.chg hc h.fs.2.2.1, fun i p b h1 h2 => hc.blk (h.pg i p b h1 h2) (h.fs.2.2.2 b (List.mem_of_getElem? h2)), ⟨hc.blk h.hm.st h.hs.1, hc.blk h.hm.ws h.hs.2, h.hm.len, h.hm.pos, h.hm.le⟩⟩
theorem StPre.new {w w' : World} {fr : List Int} (h : StPre w q hp hb n a m s fr fp mp FS v B) (hc : Chg [] w w') : StPre w' q hp hb n a m s fr fp mp FS v B :=
  ⟨hc.blk h.st (by simp), h.fl.chg hc (by simp), h.mp_.chg hc (by simp), h.od.chg hc (by simp), fun i p b h1 h2 => hc.blk (h.pg i p b h1 h2) (by simp), h.hm.new_ hc⟩

set_option maxRecDepth 100000 in
set_option maxHeartbeats 8000000 in
theorem Smake_any (k : Ky) (w : World) (h : StX w q hp hb n a m s fp mp FS v B) (hok : SrOk n a m s) :
    Calls Try.prog 42 #[.pointer (some ⟨q, 0, none⟩), .agg k.cs] w fun e w' => e = .returned (.tuple #[.int .i64 (makeV s k), .bool (makeB s k)]) ∧
      ∃ v' B', StX w' q hp hb n a m (makeS n s k) fp mp FS v' B' ∧ Chg (hb :: stS q mp FS v B) w w' ∧ ∀ i ∈ stS q mp FS v' B', i ∈ stS q mp FS v B ∨ w.heap.size ≤ i := by
  have hfd := fun w' (y : Chg [] w w') => Sfind_any k w' (h.new y)
  have hrt := fun w' => Sright_any k w'
  have hmB : makeB s k = ((pgOf s.L k).isNone && k.right && !s.fr.isEmpty) := rfl
  have hno : makeB s k = false → makeS n s k = s ∧ makeV s k = 0 := fun e => by unfold makeS makeV; rw [e]; exact ⟨rfl, rfl⟩
  have hyes : makeB s k = true → makeV s k = s.fr.getLastD 0 := fun e => by unfold makeV; rw [e]; rfl
  have hme := fun e => make_empty (k := k) hok e
  have y0 := (Chg.refl [] w).alloc (.cells k.cs 24)
  have kb0 := Blk.new w 24 k.cs
  have hkk : k.cs = #[.int .i64 k.g, .int .i64 k.lev, .int .i64 k.role] := rfl
  have hw0 : w.heap.size < (w.alloc (.cells k.cs 24)).heap.size := by simp
  cases hpo : pgOf s.L k with
  | some pk =>
    rw [hpo] at hmB hfd
    simp only [Option.isNone_some, Bool.false_and] at hmB
    obtain ⟨e1, e2⟩ := hno hmB
    rw [e1, e2, hmB]
    simp only [Option.isSome_some] at hfd
    have x0 := kb0.cell 0; have x1 := kb0.cell 1; have x2 := kb0.cell 2
    simp only [hkk, List.getElem?_toArray, List.getElem?_cons_zero, List.getElem?_cons_succ] at x0 x1 x2 hfd y0 hw0
    clear hno hyes hme hmB hrt kb0 e1 e2
    rw [hkk]
    clear hkk
    go_enter Try.func42, Try.ntmps42
    go_wp2_with fail
    refine (hfd _ y0).mono ?_; rintro e w2 ⟨rfl, y⟩
    clear hfd x0 x1 x2
    go_wp2_with fail
    go_ret2
    exact ⟨rfl, v, B, h.new (y0.trans y (by simp)), (y0.trans y (by simp)).weak (by simp), fun i hi => .inl hi⟩
  | none =>
    rw [hpo] at hmB hfd
    have hfv : findV s.L k = 0 := by unfold findV; rw [hpo]; rfl
    rw [hfv] at hfd
    simp only [Option.isNone_none, Bool.true_and, Option.isSome_none] at hmB hfd
    cases hr : k.right with
    | false =>
      rw [hr] at hmB hrt
      simp only [Bool.false_and] at hmB
      obtain ⟨e1, e2⟩ := hno hmB
      rw [e1, e2, hmB]
      have x0 := kb0.cell 0; have x1 := kb0.cell 1; have x2 := kb0.cell 2
      have z := fun w' (y : Chg [] (w.alloc (.cells k.cs 24)) w') => (kb0.chg_ y (by simp))
      simp only [hkk, List.getElem?_toArray, List.getElem?_cons_zero, List.getElem?_cons_succ] at x0 x1 x2 hfd y0 hw0 hrt z
      clear hno hyes hme hmB kb0 e1 e2
      rw [hkk]
      clear hkk
      go_enter Try.func42, Try.ntmps42
      go_wp2_with fail
      refine (hfd _ y0).mono ?_; rintro e w2 ⟨rfl, y⟩
      have zb := z _ y
      clear hfd x0 x1 x2 z
      have x0 := zb.cell 0; have x1 := zb.cell 1; have x2 := zb.cell 2
      simp only [List.getElem?_toArray, List.getElem?_cons_zero, List.getElem?_cons_succ] at x0 x1 x2
      go_wp2_with fail
      refine (hrt _).mono ?_; rintro e w3 ⟨rfl, y3⟩
      clear hrt x0 x1 x2
      go_wp2_with fail
      go_ret2
      have yy := (y0.trans y (by simp)).trans y3 (by simp)
      exact ⟨rfl, v, B, h.new yy, yy.weak (by simp), fun i hi => .inl hi⟩
    | true =>
      rw [hr] at hmB hrt
      simp only [Bool.true_and] at hmB
      have x0 := kb0.cell 0; have x1 := kb0.cell 1; have x2 := kb0.cell 2
      have z := fun w' (y : Chg [] (w.alloc (.cells k.cs 24)) w') => (kb0.chg_ y (by simp))
      have htk := fun w' (y : Chg [] w w') => FTake_at FS fp a m s.fr w' (h.new y).fl
      have hc4 := fun w' (y : Chg [] w w') => (h.new y).c4
      simp only [hkk, List.getElem?_toArray, List.getElem?_cons_zero, List.getElem?_cons_succ] at x0 x1 x2 hfd y0 hw0 hrt z
      clear kb0
      cases hfr : s.fr.isEmpty with
      | true =>
        rw [hfr] at hmB
        simp only [Bool.not_true] at hmB
        have hnil : s.fr = [] := List.isEmpty_iff.1 hfr
        obtain ⟨e1, e2⟩ := hno hmB
        rw [e1, e2, hmB]
        rw [hnil] at htk
        clear hno hyes hme hmB e1 e2 hfr
        rw [hkk]
        clear hkk
        go_enter Try.func42, Try.ntmps42
        go_wp2_with fail
        refine (hfd _ y0).mono ?_; rintro e w2 ⟨rfl, y⟩
        have zb := z _ y
        clear hfd x0 x1 x2 z
        have x0 := zb.cell 0; have x1 := zb.cell 1; have x2 := zb.cell 2
        simp only [List.getElem?_toArray, List.getElem?_cons_zero, List.getElem?_cons_succ] at x0 x1 x2
        go_wp2_with fail
        refine (hrt _).mono ?_; rintro e w3 ⟨rfl, y3⟩
        clear hrt x0 x1 x2
        have yy := (y0.trans y (by simp)).trans y3 (by simp)
        obtain ⟨c0, c1, c2, c3⟩ := hc4 _ yy
        go_wp2_with fail
        refine (htk _ yy).mono ?_; rintro e w4 ⟨rfl, y4, hf4⟩
        clear htk c0 c1 c2 c3
        simp only [takeV, takeB, List.getLastD_nil, List.isEmpty_nil, Bool.not_true]
        go_wp2_with fail
        go_ret2
        have yc := yy.weak (T := FS) (by simp)
        have yz := yc.trans y4 (fun _ _ hm => hm)
        have P := (h.new yy).taken y4 hf4
        have hsf : s = ⟨s.L, [], s.W⟩ := Sr.ext_ rfl hnil rfl
        refine ⟨rfl, v, B, ⟨P.st, by rw [hnil]; exact P.fl, P.mp_, P.od, h.bl, h.nb, P.pg, P.hm, h.nd, h.ge, h.e8, h.fs, h.hs⟩, yz.weak (fun i _ hi => by simp [stS, hi]), fun i hi => .inl hi⟩
      | false =>
        rw [hfr] at hmB
        simp only [Bool.not_false] at hmB
        have e2 := hyes hmB
        replace hme := hme hmB
        rw [e2, hmB]
        obtain ⟨_, _, efr⟩ := makeB_has hmB
        have hlast : takeV s.fr = s.fr.getLastD 0 := rfl
        have htb : takeB s.fr = true := by unfold takeB; rw [hfr]; rfl
        rw [hlast, htb] at htk
        have hmem : s.fr.getLastD 0 ∈ s.fr := by rw [efr]; simp
        generalize s.fr.getLastD 0 = f at *
        have hbd := hok.mem f (by simp [hmem])
        have hle := hok.le; have hn6 := hok.n256
        have hnot : ∀ p ∈ s.L, p.f ≠ f := fun p hp e2 => (List.nodup_append.1 hok.nd).2.2 p.f (List.mem_map.2 ⟨p, hp, rfl⟩) f hmem e2
        have hbn : blkF s.L B f = none := (blkF_none h.bl).2 (pgAt_none.2 hnot)
        have hcnt := hok.cnt
        have hsize : s.L.length ≤ 256 := by omega
        clear hno hyes hmB e2 hfr hlast htb hmem
        rw [hkk]
        clear hkk
        go_enter Try.func42, Try.ntmps42
        go_wp2_with fail
        refine (hfd _ y0).mono ?_; rintro e w2 ⟨rfl, y⟩
        have zb := z _ y
        clear hfd x0 x1 x2 z
        have x0 := zb.cell 0; have x1 := zb.cell 1; have x2 := zb.cell 2
        simp only [List.getElem?_toArray, List.getElem?_cons_zero, List.getElem?_cons_succ] at x0 x1 x2
        go_wp2_with fail
        refine (hrt _).mono ?_; rintro e w3 ⟨rfl, y3⟩
        clear hrt x0 x1 x2
        have yy := (y0.trans y (by simp)).trans y3 (by simp)
        obtain ⟨c0, c1, c2, c3⟩ := hc4 _ yy
        go_wp2_with fail
        refine (htk _ yy).mono ?_; rintro e w4 ⟨rfl, y4, hf4⟩
        clear htk c0 c1 c2 c3
        have P4 := (h.new yy).taken y4 hf4
        have ch4 := (yy.weak (T := FS) (by simp)).trans y4 (fun _ _ hm => hm)
        have kfs : w.heap.size ∉ FS := fun hm => by have := h.fl.lt _ hm; omega
        have kb4 := (zb.chg_ y3 (by simp)).chg_ y4 kfs
        have hz4 : w.heap.size ≤ w4.heap.size := Nat.le_trans yy.size y4.size
        clear zb hf4
        go_wp2_with fail
        have hne4 : q ≠ mp := h.ne.1.symm
        have kmp : w.heap.size ≠ mp := by have := h.mp_.lt; omega
        have hst4 := P4.st
        refine wp_region_noPanic ?_
        refine wp_region_held_drew (S := (fun w' => Chg [mp] w4 w')) (by kernel_rfl) ?_ (fun hHeld => ?_)
        · exact ((Chg.refl [mp] w4).drew)
        (refine take_on 0 (some 32) (v := ?_) rfl rfl (by kernel_rfl) (by kernel_rfl) (by kernel_rfl) (fun _ _ _ h => h) (by rfl) (by assumption) ?_ ?_; rotate_left; · (intro w hSw; go_simp; (try with_reducible rfl)))
        (try simp only [Act.put, List.setIfInBounds_toArray, List.set_cons_zero, List.set_cons_succ])
        (refine take_on 1 (some 33) (v := ?_) rfl rfl (by kernel_rfl) (by kernel_rfl) (by kernel_rfl) (fun _ _ _ h => h) (by rfl) (by assumption) ?_ ?_; rotate_left; · (intro w hSw; go_simp; (try with_reducible rfl)))
        (try simp only [Act.put, List.setIfInBounds_toArray, List.set_cons_zero, List.set_cons_succ])
        (refine take_on 2 (some 34) (v := ?_) rfl rfl (by kernel_rfl) (by kernel_rfl) (by kernel_rfl) (fun _ _ _ h => h) (by rfl) (by assumption) ?_ ?_; rotate_left; · (intro w hSw; go_simp; (try with_reducible rfl)))
        (try simp only [Act.put, List.setIfInBounds_toArray, List.set_cons_zero, List.set_cons_succ])
        (refine take_on 3 (some 35) (v := ?_) rfl rfl (by kernel_rfl) (by kernel_rfl) (by kernel_rfl) (fun _ _ _ h => h) (by rfl) (by assumption) ?_ ?_; rotate_left; · (intro w hSw; (try dsimp only at hSw); have b_ := (hst4.chg_ hSw (by simp; exact hne4)).cell 2; simp only [List.getElem?_toArray, List.getElem?_cons_succ, List.getElem?_cons_zero] at b_; go_simp; (try with_reducible rfl)))
        (try simp only [Act.put, List.setIfInBounds_toArray, List.set_cons_zero, List.set_cons_succ])
        (refine take_on 4 (some 36) (v := ?_) rfl rfl (by kernel_rfl) (by kernel_rfl) (by kernel_rfl) (fun _ _ _ h => h) (by rfl) (by assumption) ?_ ?_; rotate_left; · (intro w hSw; go_simp; (try with_reducible rfl)))
        (try simp only [Act.put, List.setIfInBounds_toArray, List.set_cons_zero, List.set_cons_succ])
        (refine take_on 5 (some 37) (v := ?_) rfl rfl (by kernel_rfl) (by kernel_rfl) (by kernel_rfl) (fun _ _ _ h => h) (by rfl) (by assumption) ?_ ?_; rotate_left; · (intro w hSw; go_simp; (try with_reducible rfl)))
        (try simp only [Act.put, List.setIfInBounds_toArray, List.set_cons_zero, List.set_cons_succ])
        (refine take_on 6 (some 38) (v := ?_) rfl rfl (by kernel_rfl) (by kernel_rfl) (by kernel_rfl) (fun _ _ _ h => h) (by rfl) (by assumption) ?_ ?_; rotate_left; · (intro w hSw; (try dsimp only at hSw); have b_ := (kb4.chg_ hSw (by simp; exact kmp)); have d0 := b_.cell 0; have d1 := b_.cell 1; have d2 := b_.cell 2; simp only [List.getElem?_toArray, List.getElem?_cons_zero, List.getElem?_cons_succ] at d0 d1 d2; go_simp; (try with_reducible rfl)))
        (try simp only [Act.put, List.setIfInBounds_toArray, List.set_cons_zero, List.set_cons_succ])
        (refine take_on 7 (some 39) (v := ?_) rfl rfl (by kernel_rfl) (by kernel_rfl) (by kernel_rfl) (fun _ _ _ h => h) (by rfl) (by assumption) ?_ ?_; rotate_left; · (intro w hSw; go_simp; (try with_reducible rfl)))
        (try simp only [Act.put, List.setIfInBounds_toArray, List.set_cons_zero, List.set_cons_succ])
        refine wpAnyH_ready (rs := [8]) (by kernel_rfl) (by simp) ?_; refine AllReadyH.cons (o := _) rfl (fun K hK => ?_) AllReadyH.nil
        go_simp
        refine hK.out _ _ (by (try dsimp only); exact ((Chg.refl [mp] w4).drew.alloc _)) (fun hHeld => ?_)
        clear hK K
        (try dsimp only)
        (try simp only [Act.put, List.setIfInBounds_toArray, List.set_cons_zero, List.set_cons_succ])
        obtain ⟨w5, hr5, hp5, hc5⟩ := (P4.mp_.chg (((Chg.refl [] w4).alloc (.cells (Pg.cl ⟨f, k, List.replicate 8 Slt.no⟩).toArray 102)).drew) (by simp)).store lawI Try.underlying88 Try.underlying3 (by simp [maxLen]; omega) f (WalkArith.wf_i64 (by omega)) w4.heap.size hbn
        have hcl : (Pg.cl ⟨f, k, List.replicate 8 Slt.no⟩).toArray = #[.int .i64 f, .int .i64 k.g, .int .i64 k.lev, .int .i64 k.role, .int .i64 0, .int .i64 0, .bool false, .bool false, .bool false, .int .i64 0, .int .i64 0, .bool false, .bool false, .bool false, .int .i64 0, .int .i64 0, .bool false, .bool false, .bool false, .int .i64 0, .int .i64 0, .bool false, .bool false, .bool false, .int .i64 0, .int .i64 0, .bool false, .bool false, .bool false, .int .i64 0, .int .i64 0, .bool false, .bool false, .bool false, .int .i64 0, .int .i64 0, .bool false, .bool false, .bool false, .int .i64 0, .int .i64 0, .bool false, .bool false, .bool false] := rfl
        rw [hcl] at hr5 hc5
        refine wpAnyH_ready (rs := [9]) (by kernel_rfl) (by simp) ?_; refine AllReadyH.cons (o := _) rfl (fun K hK => ?_) AllReadyH.nil
        go_simp
        refine hK.out _ _ (by (try dsimp only); exact (((Chg.refl [] w4).alloc _).drew.weak (by simp)).trans hc5 (fun _ _ hm => hm)) (fun hHeld => ?_)
        clear hK K
        (try dsimp only)
        (try simp only [Act.put, List.setIfInBounds_toArray, List.set_cons_zero, List.set_cons_succ])
        refine wpAnyH_done (by kernel_rfl) ?_ _
        refine NoPanic.normal ?_
        obtain ⟨n1, n2, n3, n4, n5, n6, n7, n8, n9, n10, n11⟩ := h.ne
        have y5 : Chg [mp] w4 w5 := (((Chg.refl [] w4).alloc _).drew.weak (by simp)).trans hc5 (fun _ _ hm => hm)
        have pg5 : PgB w5 w4.heap.size ⟨f, k, List.replicate 8 Slt.no⟩ := by
          have := (Blk.new w4 102 (Pg.cl ⟨f, k, List.replicate 8 Slt.no⟩).toArray).drew
          rw [hcl] at this
          have h2 := this.chg_ hc5 (by have := P4.mp_.lt; simp; omega)
          unfold PgB; rw [hcl]; exact h2
        have st5 := P4.st.chg_ y5 (by simp; exact n1.symm)
        have fl5 := P4.fl.chg y5 (by intro i hi hm; simp at hm; subst hm; exact h.fs.2.1 hi)
        have od5 := P4.od.chg y5 (by intro i hi hm; simp at hm; subst hm; exact (n2 _ hi).2.1 rfl)
        have pgs5 : ∀ (i : Nat) (p : Pg) (b : Nat), s.L[i]? = some p → B[i]? = some b → PgB w5 b p := fun i p b e1 e2 => Blk.chg_ (P4.pg i p b e1 e2) y5 (by simp; rintro rfl; exact n4 (List.mem_of_getElem? e2))
        have hm5 : MemAt w5 hp hb n s.W := ⟨P4.hm.st.chg_ y5 (by simp; exact n7), P4.hm.ws.chg_ y5 (by simp; exact n8), P4.hm.len, P4.hm.pos, P4.hm.le⟩
        have hz5 : w4.heap.size < w5.heap.size := Blk.lt pg5
        have hold : ∀ i ∈ stS q mp FS v B, i < w4.heap.size := fun i hi => Nat.lt_of_lt_of_le (h.lt i hi) (Nat.le_trans yy.size y4.size)
        have hhp : hp < w4.heap.size ∧ hb < w4.heap.size := ⟨P4.hm.st.lt, P4.hm.ws.lt⟩
        have ch5 : Chg (stS q mp FS v B) w w5 := (ch4.weak (fun i _ hi => by simp [stS, hi])).trans y5 (fun i _ hi => by simp at hi; simp [stS, hi])
        clear hst4 kb4 P4 hr5 hcl hc5 hHeld
        generalize hnb : w4.heap.size = nb at *
        obtain ⟨A, c, hv⟩ := od5.form
        rw [List.length_map] at hv
        subst hv
        have oG := (ownI_G.1 od5)
        obtain ⟨c0, c1, c2, c3⟩ : w5.cell? ⟨q, 0, none⟩ = some (.pointer (some ⟨hp, 0, none⟩)) ∧ w5.cell? ⟨q, 1, none⟩ = some (.pointer (some ⟨fp, 0, none⟩)) ∧ w5.cell? ⟨q, 2, none⟩ = some (.map (some mp)) ∧ w5.cell? ⟨q, 3, none⟩ = some (.slice A s.L.length c) := ⟨st5.cell 0, st5.cell 1, st5.cell 2, st5.cell 3⟩
        have oG2 := oG
        unfold OwnG at oG2
        have hsrc := fun w' => (OwnG.lit (E := numE .i64) (L := [f]) (Blk.new w' 3 #[.int .i64 f]) (by simp)).src
        have oGa : OwnG (numE .i64) (w5.alloc (.cells #[.int .i64 f] 3)) 3 (.slice A s.L.length c) (s.L.map Pg.f) := oG.new ((Chg.refl [] w5).alloc (.cells #[.int .i64 f] 3))
        have hqo : q ∉ (Value.slice A s.L.length c).ownBlock.toList := fun hm => (n2 _ hm).1 rfl
        have hl1 : (s.L.map Pg.f ++ [f]).length = s.L.length + 1 := by simp
        go_wp2_with (at_builtin; refine wpList_append_G (E := numE .i64) rfl _ _ 50 rfl 3 (.int .i64 0) 8 Try.underlying50 int_info rfl (.slice A s.L.length c) (s.L.map Pg.f) rfl oGa (some ⟨w5.heap.size, 0, none⟩) 1 1 [f] rfl (hsrc w5) rfl (by rw [List.length_map]; omega) ?_; intro v6 w6 ho6 hc6 hb6; obtain ⟨A6, c6, rfl, _, _⟩ := ho6.form; rw [hl1] at ho6 hb6; have y6 := ((Chg.refl [] w5).alloc (.cells #[.int .i64 f] 3)).weak (T := (Value.slice A s.L.length c).ownBlock.toList) (by simp); have y6 := y6.trans hc6 (fun _ _ hm => hm); have st6 := st5.chg_ y6 hqo; have q3 := st6.cell 3; have f3 := st6.frozen 3; simp only [List.getElem?_toArray, List.getElem?_cons_zero, List.getElem?_cons_succ] at q3)
        have st7 := st6.set_ 3 (.slice A6 (s.L.length + 1) c6)
        have y67 : Chg [q] w6 (w6.setCell ⟨q, 3, none⟩ (.slice A6 (s.L.length + 1) c6)) := (Chg.refl [q] w6).setCell (p := ⟨q, 3, none⟩) (by simp) _
        have ho7 : OwnG (numE .i64) (w6.setCell ⟨q, 3, none⟩ (.slice A6 (s.L.length + 1) c6)) 3 (.slice A6 (s.L.length + 1) c6) (s.L.map Pg.f ++ [f]) := ho6.chg y67 (fun g hg hm => by simp at hm; subst hm; obtain ⟨cs, hb_⟩ := own_cells ho6 _ hg; exact Blk.type_ne hb_ st6 (by decide) rfl)
        have hD : ∀ i, i ∈ q :: (Value.slice A s.L.length c).ownBlock.toList → i ∈ stS q mp FS (.slice A s.L.length c) B := fun i hi => by simp only [List.mem_cons] at hi; unfold stS; simp only [List.mem_cons, List.mem_append]; rcases hi with hi | hi; exact .inl hi; exact .inr (.inr (.inl hi))
        have y57 : Chg (q :: (Value.slice A s.L.length c).ownBlock.toList) w5 (w6.setCell ⟨q, 3, none⟩ (.slice A6 (s.L.length + 1) c6)) := (y6.weak (fun i _ hi => List.mem_cons_of_mem _ hi)).trans y67 (fun i _ hi => by simp at hi; simp [hi])
        have hnb5 : nb ∉ q :: (Value.slice A s.L.length c).ownBlock.toList := fun hm => by have := hold _ (hD _ hm); omega
        have own_fs : ∀ i ∈ (Value.slice A s.L.length c).ownBlock.toList, i ∉ FS ∧ i ≠ mp ∧ i ∉ B ∧ i ≠ hp ∧ i ≠ hb := fun i hi => ⟨h.fs.2.2.1 i hi, (n2 i hi).2.1, (n2 i hi).2.2.1, (n2 i hi).2.2.2.1, (n2 i hi).2.2.2.2⟩
        have hX : StX (w6.setCell ⟨q, 3, none⟩ (.slice A6 (s.L.length + 1) c6)) q hp hb n a m ⟨s.L ++ [⟨f, k, List.replicate 8 Slt.no⟩], s.fr.dropLast, s.W⟩ fp mp FS (.slice A6 (s.L.length + 1) c6) (B ++ [nb]) := by
          refine ⟨st7, fl5.chg y57 (fun i hi hm => ?_), ?_, ?_, by simp [h.bl], ?_, ?_, ⟨hm5.st.chg_ y57 ?_, hm5.ws.chg_ y57 ?_, hm5.len, hm5.pos, hm5.le⟩, ?_, ?_, ?_, ⟨h.fs.1, h.fs.2.1, ?_, ?_⟩, h.hs⟩
          · simp only [List.mem_cons] at hm; rcases hm with rfl | hm
            · exact h.fs.1 hi
            · exact (own_fs _ hm).1 hi
          · show PtrM _ _ _ _ (s.L ++ [_]).length _
            rw [List.length_append]
            exact (hp5.chg y57 (fun hm => by simp only [List.mem_cons] at hm; rcases hm with hm | hm; exact n1 hm; exact (own_fs _ hm).2.1 rfl)).congr fun y => (blkF_app (q := ⟨f, k, List.replicate 8 Slt.no⟩) (b := nb) h.bl (fun p hp => hnot p hp)).symm
          · show OwnI _ _ _ _ ((s.L ++ [_]).map Pg.f)
            rw [List.map_append]
            exact ownI_G.2 ho7
          · rw [List.nodup_append]
            exact ⟨h.nb, by simp, fun x hx y hy e => by simp at hy; subst hy; subst e; have := hold x (by simp [stS, hx]); omega⟩
          · intro i p b e1 e2
            by_cases hi : i < s.L.length
            · rw [List.getElem?_append_left hi] at e1
              rw [List.getElem?_append_left (by rw [h.bl]; exact hi)] at e2
              refine Blk.chg_ (pgs5 i p b e1 e2) y57 (fun hm => ?_)
              have hbB := List.mem_of_getElem? e2
              simp only [List.mem_cons] at hm; rcases hm with rfl | hm
              · exact n3 hbB
              · exact (own_fs _ hm).2.2.1 hbB
            · rw [List.getElem?_append_right (by omega)] at e1
              rw [List.getElem?_append_right (by rw [h.bl]; omega)] at e2
              have hi0 : i - s.L.length = 0 := by have := (List.getElem?_eq_some_iff.1 e1).1; simp at this; omega
              rw [hi0] at e1
              rw [h.bl, hi0] at e2
              simp at e1 e2; subst e1; subst e2
              exact Blk.chg_ pg5 y57 hnb5
          · intro hm; simp only [List.mem_cons] at hm; rcases hm with hm | hm
            · exact n5 hm
            · exact (own_fs _ hm).2.2.2.1 rfl
          · intro hm; simp only [List.mem_cons] at hm; rcases hm with hm | hm
            · exact n6 hm
            · exact (own_fs _ hm).2.2.2.2 rfl
          · show ((s.L ++ [_]).map Pg.f).Nodup
            rw [List.map_append, List.nodup_append]
            exact ⟨h.nd, by simp, fun x hx y hy e => by simp at hy hx; obtain ⟨p, hp, rfl⟩ := hx; exact hnot p hp (e.trans hy)⟩
          · intro p hp; rcases List.mem_append.1 hp with hp | hp
            · exact h.ge p hp
            · rw [List.mem_singleton] at hp; subst hp; show 0 ≤ f ∧ f < (n : Int); omega
          · intro p hp; rcases List.mem_append.1 hp with hp | hp
            · exact h.e8 p hp
            · rw [List.mem_singleton] at hp; subst hp; simp
          · intro i hi
            rcases hb6 with e | e
            · rw [e] at hi; exact (own_fs i hi).1
            · rw [e] at hi; simp at hi; subst hi; intro hm; have := fl5.lt _ hm; omega
          · intro i hi
            rcases List.mem_append.1 hi with hi | hi
            · exact h.fs.2.2.2 i hi
            · rw [List.mem_singleton] at hi; subst hi; intro hm; have := hold i (by simp [stS, hm]); omega
        have hemp := Sempty_any f _ hX (by rw [pgAt_app_no (pgAt_none.2 hnot)]; simp [pgAt])
        rw [hme] at hemp
        go_wp2_with fail
        refine hemp.mono ?_; rintro e w8 ⟨rfl, h8, y8⟩
        clear hemp
        go_wp2_with fail
        go_ret2
        have ch7 : Chg (stS q mp FS (.slice A s.L.length c) B) w (w6.setCell ⟨q, 3, none⟩ (.slice A6 (s.L.length + 1) c6)) := ch5.trans y57 (fun i _ hi => hD i hi)
        have hsw := h.lt
        refine ⟨rfl, _, _, h8, (ch7.weak (fun i _ hi => List.mem_cons_of_mem _ hi)).trans y8 (fun i hi hm => ?_), fun i hi => ?_⟩
        · simp only [List.mem_cons, List.mem_append, List.not_mem_nil, or_false] at hm
          rcases hm with rfl | hm | rfl
          · simp
          · exact List.mem_cons_of_mem _ (by simp [stS, hm])
          · omega
        · simp only [stS, List.mem_cons, List.mem_append, List.not_mem_nil, or_false] at hi
          rcases hi with rfl | rfl | hi | hi | hi | rfl
          · exact .inl (by simp [stS])
          · exact .inl (by simp [stS])
          · rcases hb6 with e | e
            · rw [e] at hi; exact .inl (hD i (List.mem_cons_of_mem _ hi))
            · rw [e] at hi; simp at hi; subst hi; right; omega
          · exact .inl (by simp [stS, hi])
          · exact .inl (by simp [stS, hi])
          · exact .inr hz4
end

end Go.Proofs.Ytpmfooeifhhfkaa
