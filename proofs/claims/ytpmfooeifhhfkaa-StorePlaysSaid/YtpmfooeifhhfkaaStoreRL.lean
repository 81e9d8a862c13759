/-
  The document's store: Drop.
-/
import Derived.Test.YtpmfooeifhhfkaaStoreRK
namespace Go.Proofs.Ytpmfooeifhhfkaa
open Go.RowKit Go.Maps
/-- where a part of a slice lies -/
def cutP (A : Option Addr) (cap l s : Nat) : Option Addr := if cap = l then A else A.map (·.add (l * s))
theorem cutP_none {A : Option Addr} {cap l s : Nat} (h : cutP A cap l s = none) : A = none := by
  unfold cutP at h; split at h
  · exact h
  · simpa using h
theorem run_rest {P : Program} (t e : TypeId) (s : Nat) (ht : P.underlying t = some (.slice e)) (hz : ∀ w, (Go.sizeOf e).run P w = .ok s w) (A : Option Addr) (len cap l : Nat) (h1 : l ≤ len) (w : World) :
    (Instr.slice t (.slice A len cap) (some (.int .i64 l)) none none).run P w = .ok (.slice (cutP A cap l s) (len - l) (cap - l)) w := by
  have hel : P.elem t = e := by simp [Program.elem, ht]
  rw [run_slice_l w t A len cap (hel.symm ▸ ht) .i64 l (by omega) (by omega), hel, hz]
  simp [Result.andThen, sliced, cutP]
theorem run_lead {P : Program} (t e : TypeId) (s : Nat) (ht : P.underlying t = some (.slice e)) (hz : ∀ w, (Go.sizeOf e).run P w = .ok s w) (A : Option Addr) (len cap h : Nat) (h2 : h ≤ cap) (w : World) :
    (Instr.slice t (.slice A len cap) none (some (.int .i64 h)) none).run P w = .ok (.slice (cutP A cap 0 s) h cap) w := by
  have hel : P.elem t = e := by simp [Program.elem, ht]
  rw [run_slice_h w t A len cap (hel.symm ▸ ht) .i64 h (by omega) (by omega), hel, hz]
  simp [Result.andThen, sliced, cutP]
theorem SlG.cutp {α : Type} {E : Enc α} {w : World} {A : Option Addr} {n cap : Nat} {L : List α} (h : SlG E w A n L) (l m : Nat) (h1 : l ≤ m) (h2 : m ≤ n) (hc : n ≤ cap) : SlG E w (cutP A cap l E.k) (m - l) ((L.drop l).take (m - l)) := by
  have hl := h.len
  refine ⟨by simp; omega, by have := h.le; omega, fun h0 => ?_⟩
  obtain ⟨b, off, rfl, hb, hr⟩ := h.at_ (by omega)
  refine ⟨b, off + l * E.k, by unfold cutP; rw [if_neg (by omega)]; simp [add_at], hb, fun j x hx => ?_⟩
  rw [List.getElem?_take] at hx
  split at hx
  · rw [List.getElem?_drop] at hx
    have := hr (l + j) x hx
    rwa [Nat.add_mul, ← Nat.add_assoc] at this
  · cases hx
theorem sizePage14 (w : World) : (Go.sizeOf 104).run Try.prog w = .ok 5 w := by kernel_rfl
section
variable {q rp rb fp n a m : Nat} {s : Sr} {LA : Option Addr} {lc : Nat} {R : List (Option Addr × Nat)} {FS : List Nat}
theorem rowsR_erase {L : List Pg} {R : List (Option Addr × Nat)} (j : Nat) (h : R.length = L.length) : rowsR (L.eraseIdx j) (R.eraseIdx j) = (rowsR L R).take j ++ (rowsR L R).drop (j + 1) := by
  rw [List.eraseIdx_eq_take_drop_succ, List.eraseIdx_eq_take_drop_succ]
  unfold rowsR
  rw [List.zipWith_append (by simp [h]), List.take_zipWith, List.drop_zipWith]
/-- its pages lie in another row now, one of them left out -/
theorem RStX.less {w : World} (h : RStX w q rp rb fp n a m s LA lc R FS) {A : Option Addr} {c j : Nat} (hj : j < s.L.length) (ho : OwnG rpE w 104 (.slice A (s.L.length - 1) c) ((rowsR s.L R).take j ++ (rowsR s.L R).drop (j + 1))) :
    RStX (w.setCell ⟨q, 2, none⟩ (.slice A (s.L.length - 1) c)) q rp rb fp n a m ⟨s.L.eraseIdx j, s.fr, s.W⟩ A c (R.eraseIdx j) FS := by
  have hc : Chg [q] w (w.setCell ⟨q, 2, none⟩ (.slice A (s.L.length - 1) c)) := (Chg.refl [q] w).setCell (by simp) _
  have hlen := h.len
  have hl1 : (s.L.eraseIdx j).length = s.L.length - 1 := List.length_eraseIdx_of_lt hj
  have hst := h.st.set_ 2 (.slice A (s.L.length - 1) c)
  refine ⟨by show Blk _ q _ #[_, _, .slice A (s.L.eraseIdx j).length c]; rw [hl1]; simpa using hst, h.hm.chg hc (by have := h.hm.st.type_ne h.st (by decide); simpa using this) (by have := h.hm.ws.type_ne h.st (by decide); simpa using this), h.hf.chg hc (h.hf.nb h.st (by decide) (by decide)), ?_, by show (R.eraseIdx j).length = (s.L.eraseIdx j).length; rw [hl1, List.length_eraseIdx_of_lt (by omega), hlen], ?_⟩
  · show OwnG rpE _ _ (.slice A (s.L.eraseIdx j).length c) (rowsR (s.L.eraseIdx j) (R.eraseIdx j))
    rw [rowsR_erase j hlen, hl1]
    exact ho.chg hc (own_nb ho h.st (by decide))
  · intro k q' r' hq hr
    rw [List.getElem?_eraseIdx] at hq hr
    by_cases e : k < j
    · rw [if_pos e] at hq hr
      exact (h.hs k q' r' hq hr).chg hc (own_nb (h.hs k q' r' hq hr) h.st (by decide))
    · rw [if_neg e] at hq hr
      exact (h.hs (k + 1) q' r' hq hr).chg hc (own_nb (h.hs (k + 1) q' r' hq hr) h.st (by decide))
set_option maxRecDepth 100000 in
set_option maxHeartbeats 16000000 in
theorem RDrop_any (p : Int) (w : World) (h : RStX w q rp rb fp n a m s LA lc R FS) (ok : SrOk n a m s) :
    Calls Try.prog 54 #[.pointer (some ⟨q, 0, none⟩), .int .i64 p] w (RGo q rp rb fp n a m (dropS s p) LA R FS (.bool (dropB s p)) w) := by
  have hat := Rat_any p w h ok.le256
  rcases at_pg ok p with ⟨hn, P, hP, hP0⟩ | ⟨j, g, hj, hjl, hg, hP, hf, _, _, _⟩
  · have e1 : dropB s p = false := by unfold dropB; rw [hn]; rfl
    have e2 : dropS s p = s := by unfold dropS; rw [if_neg (by rw [e1]; simp)]
    rw [e1, e2]
    rw [hP] at hat
    have b1 : decide (P < 0) = true := decide_eq_true hP0
    clear e1 e2 hn hP hP0 ok
    go_enter Try.func54, Try.ntmps54
    go_wp2_with fail
    refine hat.mono ?_; rintro e w2 ⟨rfl, y2⟩
    go_wp2_with fail
    go_ret
    exact RGo.same h y2 _
  · have hd : dropB s p = true := by unfold dropB; rw [hg]; rfl
    rw [hP] at hat
    have hjz : decide ((j : Int) < 0) = false := decide_eq_false (by omega)
    have hPar := fun w' (y : Chg [] w w') => Rparents_any p w' (h.new y) ok
    have hT := fun x hx => told_bound ok (kind := 1) (p := p) (x := x) hx
    have hcnt := ok.cnt; have hle := ok.le; have hn6 := ok.n256; have hN6 := ok.le256
    have hTl : (toldP 1 p s.L).length ≤ 100000 := by
      rw [← lnkF_all ok.eight]
      have := lnkF_len 1 p s.L (allI s.L.length)
      unfold allI at this ⊢
      rw [List.length_finRange] at this
      omega
    obtain ⟨T, hTT⟩ : ∃ T, toldP 1 p s.L = T := ⟨_, rfl⟩
    have hdc := drop_clr ok hd
    rw [hTT] at hPar hT hTl hdc
    clear hTT
    have hclr : ∀ (k : Nat) (x : Int × Int), (T ++ own8 p)[k]? = some x → ∀ w' R', RStX w' q rp rb fp n a m (clrN n s ((T ++ own8 p).take k)) LA lc R' FS → Calls Try.prog 53 #[.pointer (some ⟨q, 0, none⟩), .int .i64 x.1, .int .i64 x.2] w' fun e w2 => (∃ t, e = .returned (.bool t)) ∧ ∃ R2, RStX w2 q rp rb fp n a m (clrN n s ((T ++ own8 p).take (k + 1))) LA lc R2 FS ∧ Chg (rb :: lB LA) w' w2 ∧ RNew w' R' R2 := by
      intro k x hx w' R' H
      refine (RClear_any x.1 x.2 w' H (clr_ok _ ok)).mono fun e w2 ⟨e1, R2, e2, e3, e4⟩ => ⟨⟨_, e1⟩, R2, ?_, e3, e4⟩
      have hk := (List.getElem?_eq_some_iff.1 hx).1
      rw [List.take_succ_eq_append_getElem hk, clrN_snoc, (List.getElem?_eq_some_iff.1 hx).2]
      exact e2
    have hds := dropS_is hd
    have hmap3 : (wipeS s (goneC s.L p)).L.map Pg.f = s.L.map Pg.f := by unfold wipeS; rw [updS_L]; exact (updP_map s.L _).1
    have hfr3 : (wipeS s (goneC s.L p)).fr = s.fr := rfl
    obtain ⟨s3, hs3⟩ : ∃ s3, wipeS s (goneC s.L p) = s3 := ⟨_, rfl⟩
    rw [hs3] at hds hmap3 hfr3 hdc
    clear hs3
    have hlen3 : s3.L.length = s.L.length := by have := congrArg List.length hmap3; simpa using this
    obtain ⟨g3, hj3⟩ : ∃ g3, s3.L[j]? = some g3 := ⟨_, List.getElem?_eq_getElem (by omega)⟩
    have hg3 : g3.f = p := by have e := congrArg (fun l : List Int => l[j]?) hmap3; simp only [List.getElem?_map, hj3, hj, Option.map_some, Option.some.injEq] at e; rw [e, hf]
    have her : dropS s p = ⟨s3.L.eraseIdx j, s.fr ++ [p], s3.W⟩ := by rw [hds, ← filter_erase (by rw [hmap3]; exact ok.ndL) hj3, hg3]
    rw [hd, her]
    have hgv : giveB a m s.fr p = true := by
      have h1 := ok.inL (List.mem_of_getElem? hj)
      have h2 : p ∉ s.fr := fun hm => (List.nodup_append.1 ok.nd).2.2 g.f (List.mem_map.2 ⟨g, List.mem_of_getElem? hj, rfl⟩) p hm hf
      unfold giveB; rw [hf] at h1; simp [h1, h2]
    have hGv := fun w' (y : RAt w' FS fp a m s.fr) => RGive_yes FS fp a m s.fr p w' y (by omega) (by omega) hgv
    have hFSl := h.hf.lt
    have hDl : ∀ i ∈ rb :: lB LA, i < w.heap.size := fun i hi => by
      simp only [List.mem_cons] at hi
      rcases hi with rfl | hi
      · exact h.hm.ws.lt
      · obtain ⟨A, c, e, _, hA⟩ := h.hl.form
        injection e with e _ _
        subst e
        cases LA with
        | none => simp [lB] at hi
        | some a => obtain ⟨g, rfl, hg⟩ := hA a rfl; simp [lB] at hi; subst hi; exact hg
    have hjN : j < s.L.length := by omega
    replace her := Lib.hid her
    clear hds hd hf hg hP hgv hg3 hmap3 hcnt hj3
    go_enter Try.func54, Try.ntmps54
    go_wp2_with fail
    refine hat.mono ?_; rintro e w2 ⟨rfl, y2⟩
    clear hat
    go_wp2_with fail
    refine (hPar _ y2).mono ?_; rintro e w3 ⟨A, c, rfl, ho, hnew, y3⟩
    replace y3 := y2.trans y3 (by simp)
    have hnew : ∀ g ∈ (Value.slice A T.length c).ownBlock.toList, w.heap.size ≤ g := fun g hg => by have := hnew g hg; have := y2.size; omega
    clear hPar y2
    have h3 := h.new y3
    go_wp2_with fail
    go_loopw [7] (fun s7 wr => ∃ (k : Nat) (Rk : List (Option Addr × Nat)), k ≤ T.length ∧ s7 = .int .i64 k ∧ RStX wr q rp rb fp n a m (clrN n s ((T ++ own8 p).take k)) LA lc Rk FS ∧ Chg (rb :: lB LA) w wr ∧ RNew w R Rk ∧ OwnG atE wr 70 (.slice A T.length c) T) (fun s7 _ => T.length - (intOf s7).toNat)
    case atStart => exact ⟨0, R, Nat.zero_le _, rfl, h3, y3.weak (by simp), RNew.refl _ _, ho⟩
    case round =>
      obtain ⟨k, Rk, hk, rfl, H, y, hR, oT⟩ := hrel
      clear h3 ho y3
      by_cases hlt : k < T.length
      · have hltz : (k : Int) < (T.length : Int) := by omega
        obtain ⟨gb, off, x, rfl, _, hx, hat⟩ := oT.slg.get hlt
        have hc := hclr k x (by rw [List.getElem?_append_left hlt]; exact hx) wr.drew Rk (H.new (Chg.refl [] wr).drew)
        have a0 := hat 0 _ rfl; have a1 := hat 1 _ rfl
        simp only [show (atE).k = 2 from rfl, Nat.add_zero] at a0 a1
        clear hclr hx hat
        go_upto_region 8 with fail
        refine wp_region_still_tail 11 (by kernel_rfl) (by kernel_rfl) ?_
        simp only [List.take_succ_cons, List.take_zero, List.drop_succ_cons, List.drop_zero]
        change wpStill _ _ (World.drew _) _ _ _
        iterate 11 still_step
        refine wpStill_nil ?_
        change wpList _ _ _ _ _ (World.drew wr)
        go_wp2_with fail
        refine hc.mono ?_; rintro e w5 ⟨⟨t, rfl⟩, R2, H5, y5, r5⟩
        clear hc a0 a1 H
        have yd : Chg (rb :: lB LA) wr w5 := ((Chg.refl [] wr).drew.weak (by simp)).trans y5 (fun _ _ h => h)
        go_wp2_with fail
        go_roundw
        case rel => exact ⟨k + 1, R2, by omega, by go_num, H5, y.trans yd (fun _ _ h => h), hR.trans (y.trans ((Chg.refl [] wr).drew.weak (by simp)) (fun _ _ h => h)) rfl r5, oT.chg yd (fun g_ hg_ hm => by have := hnew g_ hg_; have := hDl _ hm; omega)⟩
        case measure => simp [intOf]; omega
      · obtain rfl : k = T.length := by omega
        have hltz : ¬ (T.length : Int) < (T.length : Int) := by omega
        clear oT hnew
        go_wp2_with fail
        go_loopw [8] (fun s8 wr => ∃ (i : Nat) (Rk : List (Option Addr × Nat)), i ≤ 8 ∧ s8 = .int .i64 i ∧ RStX wr q rp rb fp n a m (clrN n s ((T ++ own8 p).take (T.length + i))) LA lc Rk FS ∧ Chg (rb :: lB LA) w wr ∧ RNew w R Rk) (fun s8 _ => 8 - (intOf s8).toNat)
        case atStart => exact ⟨0, Rk, by omega, rfl, H, y, hR⟩
        case round =>
          obtain ⟨i, Rk, hi, rfl, H, y, hR⟩ := hrel
          by_cases hi8 : i < 8
          · have hiz : (i : Int) < 8 := by omega
            have hc := hclr (T.length + i) (p, (i : Int)) (by rw [List.getElem?_append_right (by omega), Nat.add_sub_cancel_left]; exact own8_at p hi8) _ Rk H
            simp only at hc
            clear hclr H
            go_wp2_with fail
            refine hc.mono ?_; rintro e w5 ⟨⟨t, rfl⟩, R2, H5, y5, r5⟩
            clear hc
            go_wp2_with fail
            go_roundw
            case rel => exact ⟨i + 1, R2, by omega, by go_num, H5, y.trans y5 (fun _ _ h => h), hR.trans y rfl r5⟩
            case measure => simp [intOf]; omega
          · obtain rfl : i = 8 := by omega
            have hiz : ¬ ((8 : Nat) : Int) < 8 := by omega
            have hfull : (T ++ own8 p).take (T.length + 8) = T ++ own8 p := List.take_of_length_le (by simp [own8])
            rw [hfull, hdc] at H
            clear hfull hdc hclr
            have hst := H.st
            have hRl : (rowsR s3.L Rk).length = s3.L.length := by unfold rowsR; rw [List.length_zipWith, H.len]; omega
            obtain ⟨b_, eA⟩ : ∃ b_, LA = some ⟨b_, 0, none⟩ := by
              obtain ⟨b_, _, _, eA, _⟩ := H.page0 (j := j) (p := s3.L[j]'(by omega)) (List.getElem?_eq_getElem (by omega))
              exact ⟨b_, eA⟩
            have hcap := H.hl.cap
            rw [hlen3] at hst hRl hcap
            have hlead := fun w => run_lead 93 104 5 Try.underlying93 sizePage14 LA s.L.length lc j (by omega) w
            have hrest := fun w => run_rest 93 104 5 Try.underlying93 sizePage14 LA s.L.length lc (j + 1) (by omega) w
            have ej1 : ((j + 1 : Nat) : Int) = (j : Int) + 1 := by omega
            rw [ej1] at hrest
            clear ej1
            have hwr1 : IntKind.i64.wrap ((j : Int) + 1) = (j : Int) + 1 := IntWalk.i64_in _ (by omega)
            have hcut1 := fun w' (y : Chg [] wr w') => ((H.hl.new y).slg.cutp 0 j (by omega) (by omega) (cap := lc) (by omega))
            have hcut2 := fun w' (y : Chg [] wr w') => ((H.hl.new y).slg.cutp (j + 1) s3.L.length (by omega) (by omega) (cap := lc) (by omega))
            simp only [Nat.sub_zero, List.drop_zero, show rpE.k = 5 from rfl, hlen3] at hcut1 hcut2
            rw [show ((rowsR s3.L Rk).drop (j + 1)).take (s.L.length - (j + 1)) = (rowsR s3.L Rk).drop (j + 1) from List.take_of_length_le (by rw [List.length_drop, hRl]; omega)] at hcut2
            have hn1 : cutP LA lc 0 5 ≠ none := fun e => by have := cutP_none e; rw [eA] at this; cases this
            have hn2 : cutP LA lc (j + 1) 5 ≠ none := fun e => by have := cutP_none e; rw [eA] at this; cases this
            have hl1 : ((rowsR s3.L Rk).take j).length = j := by rw [List.length_take, hRl]; omega
            have hl2 : ((rowsR s3.L Rk).drop (j + 1)).length = s.L.length - (j + 1) := by rw [List.length_drop, hRl]
            clear eA
            generalize cutP LA lc 0 5 = A1 at hlead hcut1 hn1
            generalize cutP LA lc (j + 1) 5 = A2 at hrest hcut2 hn2
            go_upto_region 13 with fail
            refine wp_region_noPanic ?_
            refine late_region (S := (fun w' => Chg [] wr w')) (Z := 19) (by kernel_rfl) ((Chg.refl [] wr).drew) (fun hHeld => ?_)
            have HH : SepC wr wr.drew [] := (SepC.nil wr).new (Chg.refl [] wr).drew
            clear hHeld
            generalize wr.drew = u at *
            have hHeld := HH.1
            (refine late_on 0 (some 43) (v := ?_) rfl rfl (by kernel_rfl) (by kernel_rfl) (by kernel_rfl) (by kernel_rfl) (fun _ _ _ h => h) (by rfl) (by assumption) ?_ ?_; rotate_left; · (intro w hSw; go_simp; (try with_reducible rfl)))
            (try simp only [Act.put, List.setIfInBounds_toArray, List.set_cons_zero, List.set_cons_succ])
            (refine late_on 2 (some 45) (v := ?_) rfl rfl (by kernel_rfl) (by kernel_rfl) (by kernel_rfl) (by kernel_rfl) (fun _ _ _ h => h) (by rfl) (by assumption) ?_ ?_; rotate_left; · (intro w hSw; go_simp; (try with_reducible rfl)))
            (try simp only [Act.put, List.setIfInBounds_toArray, List.set_cons_zero, List.set_cons_succ])
            (refine late_on 3 (some 46) (v := ?_) rfl rfl (by kernel_rfl) (by kernel_rfl) (by kernel_rfl) (by kernel_rfl) (fun _ _ _ h => h) (by rfl) (by assumption) ?_ ?_; rotate_left; · (intro w hSw; go_simp; (try with_reducible rfl)))
            (try simp only [Act.put, List.setIfInBounds_toArray, List.set_cons_zero, List.set_cons_succ])
            (refine late_on 4 (some 47) (v := ?_) rfl rfl (by kernel_rfl) (by kernel_rfl) (by kernel_rfl) (by kernel_rfl) (fun _ _ _ h => h) (by rfl) (by assumption) ?_ ?_; rotate_left; · (intro w hSw; go_simp; (try with_reducible rfl)))
            (try simp only [Act.put, List.setIfInBounds_toArray, List.set_cons_zero, List.set_cons_succ])
            (refine late_on 5 (some 48) (v := ?_) rfl rfl (by kernel_rfl) (by kernel_rfl) (by kernel_rfl) (by kernel_rfl) (fun _ _ _ h => h) (by rfl) (by assumption) ?_ ?_; rotate_left; · (intro w hSw; (try dsimp only at hSw); have b_ := (hst.chg_ hSw (by simp)).cell 2; simp only [List.getElem?_toArray, List.getElem?_cons_zero, List.getElem?_cons_succ] at b_; go_simp; (try with_reducible rfl)))
            (try simp only [Act.put, List.setIfInBounds_toArray, List.set_cons_zero, List.set_cons_succ])
            (refine late_on 6 (some 49) (v := ?_) rfl rfl (by kernel_rfl) (by kernel_rfl) (by kernel_rfl) (by kernel_rfl) (fun _ _ _ h => h) (by rfl) (by assumption) ?_ ?_; rotate_left; · (intro w hSw; go_simp; (try with_reducible rfl)))
            (try simp only [Act.put, List.setIfInBounds_toArray, List.set_cons_zero, List.set_cons_succ])
            (refine late_on 7 (some 50) (v := ?_) rfl rfl (by kernel_rfl) (by kernel_rfl) (by kernel_rfl) (by kernel_rfl) (fun _ _ _ h => h) (by rfl) (by assumption) ?_ ?_; rotate_left; · (intro w hSw; have hl_ := hlead w; go_simp; (try with_reducible rfl)))
            (try simp only [Act.put, List.setIfInBounds_toArray, List.set_cons_zero, List.set_cons_succ])
            (refine late_on 9 (some 52) (v := ?_) rfl rfl (by kernel_rfl) (by kernel_rfl) (by kernel_rfl) (by kernel_rfl) (fun _ _ _ h => h) (by rfl) (by assumption) ?_ ?_; rotate_left; · (intro w hSw; go_simp; (try with_reducible rfl)))
            (try simp only [Act.put, List.setIfInBounds_toArray, List.set_cons_zero, List.set_cons_succ])
            (refine late_on 10 (some 53) (v := ?_) rfl rfl (by kernel_rfl) (by kernel_rfl) (by kernel_rfl) (by kernel_rfl) (fun _ _ _ h => h) (by rfl) (by assumption) ?_ ?_; rotate_left; · (intro w hSw; go_simp; (try with_reducible rfl)))
            (try simp only [Act.put, List.setIfInBounds_toArray, List.set_cons_zero, List.set_cons_succ])
            (refine late_on 11 (some 54) (v := ?_) rfl rfl (by kernel_rfl) (by kernel_rfl) (by kernel_rfl) (by kernel_rfl) (fun _ _ _ h => h) (by rfl) (by assumption) ?_ ?_; rotate_left; · (intro w hSw; go_simp; (try with_reducible rfl)))
            (try simp only [Act.put, List.setIfInBounds_toArray, List.set_cons_zero, List.set_cons_succ])
            (refine late_on 12 (some 55) (v := ?_) rfl rfl (by kernel_rfl) (by kernel_rfl) (by kernel_rfl) (by kernel_rfl) (fun _ _ _ h => h) (by rfl) (by assumption) ?_ ?_; rotate_left; · (intro w hSw; (try dsimp only at hSw); have b_ := (hst.chg_ hSw (by simp)).cell 2; simp only [List.getElem?_toArray, List.getElem?_cons_zero, List.getElem?_cons_succ] at b_; go_simp; (try with_reducible rfl)))
            (try simp only [Act.put, List.setIfInBounds_toArray, List.set_cons_zero, List.set_cons_succ])
            (refine late_on 13 (some 56) (v := ?_) rfl rfl (by kernel_rfl) (by kernel_rfl) (by kernel_rfl) (by kernel_rfl) (fun _ _ _ h => h) (by rfl) (by assumption) ?_ ?_; rotate_left; · (intro w hSw; go_simp; (try with_reducible rfl)))
            (try simp only [Act.put, List.setIfInBounds_toArray, List.set_cons_zero, List.set_cons_succ])
            (refine late_on 14 (some 57) (v := ?_) rfl rfl (by kernel_rfl) (by kernel_rfl) (by kernel_rfl) (by kernel_rfl) (fun _ _ _ h => h) (by rfl) (by assumption) ?_ ?_; rotate_left; · (intro w hSw; go_simp; (try with_reducible rfl)))
            (try simp only [Act.put, List.setIfInBounds_toArray, List.set_cons_zero, List.set_cons_succ])
            (refine late_on 15 (some 58) (v := ?_) rfl rfl (by kernel_rfl) (by kernel_rfl) (by kernel_rfl) (by kernel_rfl) (fun _ _ _ h => h) (by rfl) (by assumption) ?_ ?_; rotate_left; · (intro w hSw; have hl_ := hrest w; go_simp; (try with_reducible rfl)))
            (try simp only [Act.put, List.setIfInBounds_toArray, List.set_cons_zero, List.set_cons_succ])
            refine late_ready (rs := [1]) (by kernel_rfl) (by simp) ?_; refine AllLate.cons (o := _) rfl (fun K hK => ?_) AllLate.nil
            go_simp
            replace HH : SepC wr (u.alloc (.cells #[] 104)) (blkT u.heap.size 104 (rpE.all []).toArray :: _) := HH.alloc _ _
            replace HH := HH.litOwn (c := 0) (by simp) (by simp)
            refine hK.out _ _ (fun _ => by (try dsimp only); exact HH.1) ?_
            clear hK K
            (try simp only [Act.put, List.setIfInBounds_toArray, List.set_cons_zero, List.set_cons_succ])
            clear hHeld
            generalize u.alloc (.cells #[] 104) = u' at *
            generalize u.heap.size = ga at *
            clear u
            obtain ⟨u, hu⟩ : ∃ u, u' = u := ⟨_, rfl⟩
            rw [hu] at HH ⊢
            clear hu u'
            have hHeld := HH.1
            refine late_ready (rs := [8]) (by kernel_rfl) (by simp) ?_; refine AllLate.cons (o := _) rfl (fun K hK => ?_) AllLate.nil
            refine step_append_G (E := rpE) (some 51) rfl rfl (.tmp 44) (.tmp 50) 93 rfl 104 (.agg #[.int .i64 0, .int .i64 0, .int .i64 0, .int .i64 0, .slice none 0 0]) 56 Try.underlying93 Page14_info rfl (.slice (some ⟨ga, 0, none⟩) 0 0) [] rfl HH.own A1 j lc ((rowsR s3.L Rk).take j) rfl (SlG.src (hcut1 _ HH.1) (fun e => absurd e hn1)) hl1 (by simp; omega) (fun v' u' ho5 hc5 hb5 => ?_)
            rw [List.nil_append] at ho5
            obtain ⟨A5, c5, rfl, hx1, hx2⟩ := ho5.form
            clear hx1 hx2
            rw [hl1] at ho5 hb5 ⊢
            replace HH := HH.app ho5 hc5 hb5
            clear ho5 hc5 hb5
            refine hK.out _ _ (fun _ => by (try dsimp only); exact HH.1) ?_
            clear hK K
            (try simp only [Act.put, List.setIfInBounds_toArray, List.set_cons_zero, List.set_cons_succ])
            clear hHeld u
            obtain ⟨u, hu⟩ : ∃ u, u' = u := ⟨_, rfl⟩
            rw [hu] at HH ⊢
            clear hu u'
            have hHeld := HH.1
            refine late_ready (rs := [16]) (by kernel_rfl) (by simp) ?_; refine AllLate.cons (o := _) rfl (fun K hK => ?_) AllLate.nil
            refine step_append_G (E := rpE) (some 59) rfl rfl (.tmp 51) (.tmp 58) 93 rfl 104 (.agg #[.int .i64 0, .int .i64 0, .int .i64 0, .int .i64 0, .slice none 0 0]) 56 Try.underlying93 Page14_info rfl (.slice A5 j c5) ((rowsR s3.L Rk).take j) rfl HH.own A2 (s.L.length - (j + 1)) (lc - (j + 1)) ((rowsR s3.L Rk).drop (j + 1)) rfl (SlG.src (hcut2 _ HH.1) (fun e => absurd e hn2)) hl2 (by rw [hl1]; omega) (fun v' u' ho5 hc5 hb5 => ?_)
            obtain ⟨A6, c6, rfl, hx1, hx2⟩ := ho5.form
            clear hx1 hx2
            have hl6 : ((rowsR s3.L Rk).take j ++ (rowsR s3.L Rk).drop (j + 1)).length = s.L.length - 1 := by rw [List.length_append, hl1, hl2]; omega
            rw [hl6] at ho5 hb5 ⊢
            replace HH := HH.app ho5 hc5 hb5
            clear ho5 hc5 hb5 hl6
            refine hK.out _ _ (fun _ => by (try dsimp only); exact HH.1) ?_
            clear hK K
            (try simp only [Act.put, List.setIfInBounds_toArray, List.set_cons_zero, List.set_cons_succ])
            clear hHeld u
            have hqu := hst.chg_ HH.1 (by simp)
            have c2 := hqu.cell 2; have f2 := hqu.frozen 2
            simp only [List.getElem?_toArray, List.getElem?_cons_zero, List.getElem?_cons_succ] at c2
            refine late_ready (rs := [17]) (by kernel_rfl) (by simp) ?_; refine AllLate.cons (o := _) rfl (fun K hK => ?_) AllLate.nil
            go_simp
            refine hK.out _ _ (fun _ => by (try dsimp only); exact HH.1) ?_
            clear hK K
            (try simp only [Act.put, List.setIfInBounds_toArray, List.set_cons_zero, List.set_cons_succ])
            refine late_ready (rs := [18]) (by kernel_rfl) (by simp) ?_; refine AllLate.cons (o := _) rfl (fun K hK => ?_) AllLate.nil
            go_simp
            refine hK.out _ _ (fun _ => by (try dsimp only); exact HH.1) ?_
            clear hK K
            (try simp only [Act.put, List.setIfInBounds_toArray, List.set_cons_zero, List.set_cons_succ])
            refine late_ready (rs := [19]) (by kernel_rfl) (by simp) ?_; refine AllLate.cons (o := _) rfl (fun K hK => ?_) AllLate.nil
            go_simp
            refine hK.out _ _ (fun e => absurd rfl e) ?_
            clear hK K
            (try simp only [Act.put, List.setIfInBounds_toArray, List.set_cons_zero, List.set_cons_succ])
            refine late_done (by kernel_rfl) ?_ _
            refine NoPanic.normal ?_
            have hown := HH.own
            rw [← hlen3] at hown
            have hless := (H.new HH.1).less (j := j) (by omega) hown
            rw [hlen3] at hless
            have hA6 : ∀ g ∈ lB A6, w.heap.size ≤ g := fun g hg => by
              obtain ⟨S_, ⟨e_, _⟩, hS_⟩ := HH.fst
              have := hS_ g (by rw [e_]; cases A6 <;> exact hg)
              have := y.size; omega
            have hyv : Chg (rb :: q :: lB LA) w (u'.setCell ⟨q, 2, none⟩ (.slice A6 (s.L.length - 1) c6)) := ((y.weak (fun i_ _ hi_ => by simp only [List.mem_cons] at hi_ ⊢; rcases hi_ with h_ | h_ <;> simp [h_])).trans HH.1 (by simp)).setCell (p := ⟨q, 2, none⟩) (by simp) _
            clear hwr1 hqu c2 f2 HH H hst hRl hown hcut1 hcut2 hlead hrest hl1 hl2 hn1 hn2 hcap
            generalize u'.setCell ⟨q, 2, none⟩ (.slice A6 (s.L.length - 1) c6) = v0 at *
            clear u'
            have hcf := hless.st.cell 1
            simp only [List.getElem?_toArray, List.getElem?_cons_zero, List.getElem?_cons_succ] at hcf
            have hgv := hGv v0 (hfr3 ▸ hless.hf)
            clear hGv
            go_wp2_with fail
            refine hgv.mono ?_; rintro e w9 ⟨FS', rfl, y9, hf9, hG⟩
            clear hgv hcf
            have hr9 := hless.frees y9 hf9
            go_wp2_with fail
            go_ret
            refine ⟨rfl, A6, c6, _, FS', hr9, (hyv.weak (fun i_ _ hi_ => by simp only [List.mem_cons, List.mem_append] at hi_ ⊢; rcases hi_ with h_ | h_ | h_ <;> simp [h_])).trans y9 (fun i_ _ hi_ => by simp [hi_]), fun g_ hg_ => ?_, fun r_ hr_ => hR r_ (List.mem_of_mem_eraseIdx hr_)⟩
            rw [List.mem_append] at hg_
            rcases hg_ with h_ | h_
            · exact .inr (hA6 g_ h_)
            · rcases hG g_ h_ with h2 | h2
              · exact .inl (by simp [h2])
              · exact .inr (by have := hyv.size; omega)
end

end Go.Proofs.Ytpmfooeifhhfkaa
