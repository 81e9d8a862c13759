/-
  GuardReach: the law, walked from contracts.
-/
import Derived.Test.YtgjfidjhbkaobaaGuardW
import Derived.Test.YtgjfidjhbkaobaaG4r
import Derived.Deep.CutRange
namespace Go.Proofs.Ytgjfidjhbkaobaa
open Go.RowKit Go.Maps

theorem reach_in {n a m : Nat} {s : Sr} (_h : SrOk n a m s) {root p : Int} {k N : Nat} (hk : k < 8) (hN : N < 512) : (N : Int) ∈ reachP s.L root p k ↔ passB s.L root p k N = true := by
  rw [reach_mem]
  constructor
  · rintro ⟨j, _, e, _, hp⟩
    have : j = N := by omega
    subst this; exact hp
  · intro hp; exact ⟨N, hN, rfl, by omega, hp⟩
/-- one level of a way -/
theorem pass_step (P : List Pg) (p : Int) (k N lv : Nat) (q : Int) : passL P p k (lv + 1) q (N % 8 ^ (lv + 1)) = (decide (q = p ∧ ((N / 8 ^ lv % 8 : Nat) : Int) = (k : Int)) || (decide ((slV P (q, ((N / 8 ^ lv % 8 : Nat) : Int))).kind = 1) && passL P p k lv (slV P (q, ((N / 8 ^ lv % 8 : Nat) : Int))).to_ (N % 8 ^ lv))) := by
  have e1 : N % 8 ^ (lv + 1) / 8 ^ lv = N / 8 ^ lv % 8 := by
    rw [Nat.pow_succ, Nat.mod_mul_right_div_self]
  have e2 : N % 8 ^ (lv + 1) % 8 ^ lv = N % 8 ^ lv := by
    rw [Nat.pow_succ, Nat.mod_mul_right_mod]
  rw [passL, e1, e2]
  congr 1
  exact decide_eq_decide.2 ⟨fun h => ⟨h.1.symm, h.2⟩, fun h => ⟨h.1.symm, h.2⟩⟩
theorem idx_at {N lv : Nat} (hN : N < 512) (hl : lv < 3) : idxI (N : Int) ((lv + 1 : Nat) : Int) = ((N / 8 ^ lv % 8 : Nat) : Int) := by
  have : lv = 0 ∨ lv = 1 ∨ lv = 2 := by omega
  unfold idxI
  rcases this with rfl | rfl | rfl
  · simp
  · simp; omega
  · simp; omega
set_option maxRecDepth 100000 in
set_option maxHeartbeats 20000000 in
/-- an entry is passed for a page just if it stands on the way that the host's machine goes for it, from the root on -/
theorem lawGuardReach_any (A : Option Addr) (n c : Nat) (P : List Pu) (B : Option Addr) (m e0 : Nat) (L : List Gst) (root : Int) (at_ ii pg : Nat) (w : World) (hP : SlP w A n P) (hl : GopsIn w B m L) (hat : at_ ≤ 255) (hii : ii ≤ 255) (hpg : pg ≤ 65535) :
    Calls Try.prog 6 #[.slice A n c, .slice B m e0, .int .i64 root, .int .u8 at_, .int .u8 ii, .int .u16 pg] w fun e w' => e = .returned (.bool true) ∧ Chg [] w w' := by
  have hHd := fun w' => GHead_any w'
  have hGr := fun z => Great16_any A n c B m e0 z
  have hmm := hl.sl.len
  have hm9 := hl.sl.le
  replace hmm := Lib.hid hmm
  have H0 := SepC.nil w
  cases hg_ : (decide (n > 600) || decide (m > 120))
  rotate_left
  · rw [hg_] at hGr
    go_enter Try.func6, Try.ntmps6
    go_wp2_with fail
    refine (hHd _).mono ?_; rintro e z1 ⟨rfl, y1⟩
    have H1 := H0.new y1
    clear H0 y1 hHd
    go_wp2_with fail
    refine (Made16_at (hP.self H1.1)).mono ?_; intro e z2 hMP
    unfold MadeP16 at hMP
    obtain ⟨wb, dd, gq, mp, q, hp, hb, t, rfl, HM⟩ := hMP
    have H := H1.merge HM
    clear H1 HM hP
    go_wp2_with fail
    refine (hGr _).mono ?_; rintro e z3 ⟨rfl, rfl⟩
    clear hGr
    go_wp2_with fail
    go_ret
    exact ⟨rfl, H.1⟩
  rw [hg_] at hGr
  clear hg_
  go_enter Try.func6, Try.ntmps6
  go_wp2_with fail
  refine (hHd _).mono ?_; rintro e z1 ⟨rfl, y1⟩
  have H1 := H0.new y1
  clear H0 y1 hHd
  go_wp2_with fail
  refine (Made16_at (hP.self H1.1)).mono ?_; intro e z2 hMP
  unfold MadeP16 at hMP
  obtain ⟨wb, dd, gq, mp, q, hp, hb, t, rfl, HM⟩ := hMP
  have H := H1.merge HM
  clear H1 HM hP
  go_wp2_with fail
  refine (hGr _).mono ?_; rintro e z3 ⟨rfl, rfl⟩
  clear hGr
  go_wp2_with fail
  replace H : SepC w _ (gdT dd gq mp q hp hb t 40 4 8 8 gl16 (opsG (gd0 (madeG P)) (L.take 0)) :: blkT wb 43 (wdC hp gq q t dd) :: []) := H
  go_loopw [15] (fun s_ wr => ∃ k : Nat, k ≤ m ∧ s_ = .int .i64 k ∧ SepC w wr (gdT dd gq mp q hp hb t 40 4 8 8 gl16 (opsG (gd0 (madeG P)) (L.take k)) :: blkT wb 43 (wdC hp gq q t dd) :: [])) (fun s_ _ => m - (intOf s_).toNat)
  case atStart => exact ⟨0, Nat.zero_le _, rfl, H⟩
  case round =>
    clear H
    obtain ⟨k, hk, rfl, H⟩ := hrel
    by_cases hlt : k < m
    · have hltz : (k : Int) < (m : Int) := by omega
      obtain ⟨b, off, o, rfl, ho, c0, c1, c2, c3, c4, c5, c6, c7, c8, c9, c10⟩ := gopE_cells (hl.new H.1).sl hlt
      have hD := H.wDo o (hl.at_ ho)
      rw [← opsG_take ho] at hD
      simp only [Gst.cs] at hD
      clear H
      go_wp2_with fail
      refine hD.mono ?_; rintro e w2 ⟨rfl, H2⟩
      clear hD c0 c1 c2 c3 c4 c5 c6 c7 c8 c9 c10
      go_wp2_with fail
      go_roundw
      case rel => exact ⟨k + 1, by omega, by go_num, H2⟩
      case measure => simp [intOf]; omega
    · have ek : k = m := by omega
      subst ek
      have hltz : ¬ (k : Int) < (k : Int) := by omega
      rw [List.take_of_length_le (Nat.le_of_eq hmm.out)] at H
      obtain ⟨d, hd⟩ : ∃ d, opsG (gd0 (madeG P)) L = d := ⟨_, rfl⟩
      rw [hd] at H
      have G := H.gIn
      clear hd hltz hlt hk hmm hm9 hl
      have hok := G.ok.sr
      have hLn := hok.le256
      have hpl := fun j (hj : j < d.s.L.length) => hok.pageAt hj
      have cA := H.kPages
      have hlm : (d.s.L.map Pg.f).length = d.s.L.length := List.length_map _
      rw [hlm] at cA
      clear hlm
      generalize hF7 : d.s.L.map Pg.f = F7 at *
      obtain ⟨N7, hN7⟩ : ∃ N7, d.s.L.length = N7 := ⟨_, rfl⟩
      rw [hN7] at cA hpl hLn
      obtain ⟨w0_, w1_, w2_, w3_, w4_⟩ := wdC_cells (H.pick 1 rfl).blk
      go_wp2_with fail
      refine cA.mono ?_; rintro e z7 ⟨A7, c7, rfl, H_⟩
      clear cA w0_ w1_ w2_ w3_ w4_ H
      have H := (H_.pick 2 rfl).pick 2 rfl
      clear H_
      by_cases h0 : N7 = 0
      · subst h0
        have hdn : reachP d.s.L root 4 0 = [] := reach_none (.inl (by rw [List.eq_nil_of_length_eq_zero hN7]; rfl))
        replace hN7 := Lib.hid hN7; replace hF7 := Lib.hid hF7
        have cR := H.kReach root 4 0
        rw [hdn] at cR
        simp only [List.length_nil] at cR
        clear hpl hdn G hok
        obtain ⟨w0_, w1_, w2_, w3_, w4_⟩ := wdC_cells (H.pick 1 rfl).blk
        go_wp2_with fail
        refine cR.mono ?_; rintro e z8 ⟨A8, c8, rfl, H_⟩
        go_wp2_with fail
        go_ret
        exact ⟨rfl, H_.1⟩
      have h0b : ((N7 : Int) == 0) = false := by simpa using h0
      have hNp : 0 < N7 := by omega
      obtain ⟨J, hJ, hJN⟩ : ∃ J : Nat, (at_ : Int) % (N7 : Int) = (J : Int) ∧ J < N7 := ⟨at_ % N7, by simp, Nat.mod_lt _ hNp⟩
      have hJt : Int.tmod (at_ : Int) (N7 : Int) = (J : Int) := by rw [← hJ]; rw [Int.tmod_eq_emod_of_nonneg (by omega)]
      obtain ⟨qj, hq0, hqm, hqa, hqk, hqr, hqF⟩ := hpl J hJN
      clear hpl hq0 hqk hqa hqm
      obtain ⟨ab, aoff, ax, rfl, _, hax, hac⟩ := SlN.get (H.pick 2 rfl).own.slg hJN
      rw [hqF] at hax; cases hax
      clear hqF
      obtain ⟨p, hp_⟩ : ∃ p, qj.f = p := ⟨_, rfl⟩
      rw [hp_] at hac hqr
      clear hp_
      obtain ⟨k8, hk8, hk8l⟩ : ∃ k8 : Nat, ii % 8 = k8 ∧ k8 < 8 := ⟨_, rfl, by omega⟩
      obtain ⟨N, hNN, hN5⟩ : ∃ N : Nat, pg % 512 = N ∧ N < 512 := ⟨_, rfl, by omega⟩
      have hm1 : (ii : Int) % 8 = (k8 : Int) := by omega
      have hm1t : Int.tmod (ii : Int) 8 = (k8 : Int) := by rw [Int.tmod_eq_emod_of_nonneg (by omega)]; exact hm1
      have hm2 : (pg : Int) % 512 = (N : Int) := by omega
      have hm2t : Int.tmod (pg : Int) 512 = (N : Int) := by rw [Int.tmod_eq_emod_of_nonneg (by omega)]; exact hm2
      clear hk8 hNN
      have cR := fun {z : World} {l_ : List Th} (H' : SepC w z (gdT dd gq mp q hp hb t 40 4 8 8 gl16 (d) :: l_)) => H'.kReach root p (k8 : Int)
      have hin := reach_in hok (root := root) (p := p) hk8l hN5
      have hup := reach_up d.s.L root p (k8 : Int)
      have hRl : (reachP d.s.L root p (k8 : Int)).length ≤ 512 := by unfold reachP; rw [List.length_map]; exact Nat.le_trans (List.length_filter_le _ _) (by simp)
      have hpt := fun t_ (ht : pgOf d.s.L ⟨root, 3, 0⟩ = some t_) => pass_top d.s.L p (k8 : Int) root ht N
      have hpn : pgOf d.s.L ⟨root, 3, 0⟩ = none → passB d.s.L root p (k8 : Int) N = false := fun h => by unfold passB; rw [h]
      generalize passB d.s.L root p (k8 : Int) N = bb at *
      generalize reachP d.s.L root p (k8 : Int) = R at *
      have cF := fun {z : World} {l_ : List Th} (H' : SepC w z (gdT dd gq mp q hp hb t 40 4 8 8 gl16 (d) :: l_)) => H'.kFind ⟨root, 3, 0⟩
      simp only [Ky.cs] at cF
      obtain ⟨NR, hNR⟩ : ∃ NR, R.length = NR := ⟨_, rfl⟩
      rw [hNR] at cR hRl
      have hle : ∀ (j : Nat) (x y : Int), R[j]? = some x → R[j + 1]? = some y → x < y := fun j x y hx hy => by
        obtain ⟨h1, h2⟩ := List.getElem?_eq_some_iff.1 hx; obtain ⟨h3, h4⟩ := List.getElem?_eq_some_iff.1 hy
        rw [← h2, ← h4]; exact List.pairwise_iff_getElem.1 hup j (j + 1) h1 h3 (by omega)
      clear hup
      replace hN7 := Lib.hid hN7; replace hF7 := Lib.hid hF7; replace hNR := Lib.hid hNR; replace hle := Lib.hid hle; replace hin := Lib.hid hin
      have hpf : ∀ t_, pgOf d.s.L ⟨root, 3, 0⟩ = some t_ → levP d.s.L t_.f = 3 := fun t_ ht => by obtain ⟨h1, h2⟩ := pgOf_mem ht; unfold levP; rw [hok.at_ h1, Option.map_some, h2]; rfl
      obtain ⟨w0_, w1_, w2_, w3_, w4_⟩ := wdC_cells (H.pick 1 rfl).blk
      go_wp2_with fail
      refine (cR H).mono ?_; rintro e z8 ⟨AR, cR_, rfl, H_⟩
      clear cR H w0_ w1_ w2_ w3_ w4_ hac
      have H := (H_.pick 2 rfl).pick 2 rfl
      clear H_
      skip
      go_wp2_with fail
      obtain ⟨tl, htl0, htls, htle⟩ : ∃ tl : Nat → Bool, tl 0 = false ∧ (∀ (j : Nat) (x : Int), R[j]? = some x → tl (j + 1) = (tl j || (x == (N : Int)))) ∧ tl NR = bb := by
        refine ⟨fun j => decide ((N : Int) ∈ R.take j), by simp, fun j x hx => ?_, ?_⟩
        · obtain ⟨h1, h2⟩ := List.getElem?_eq_some_iff.1 hx
          simp only [List.take_succ_eq_append_getElem h1, h2, List.mem_append, List.mem_singleton, Bool.decide_or]
          congr 1
          exact Bool.eq_iff_iff.2 (by simp; exact eq_comm)
        · simp only [← hNR.out, List.take_length]
          exact Bool.eq_iff_iff.2 (by rw [decide_eq_true_eq]; exact hin.out)
      replace htl0 := Lib.hid htl0; replace htls := Lib.hid htls; replace htle := Lib.hid htle
      clear hin
      go_loopw [21, 22] (fun s21 s22 wr => ∃ (j : Nat), j ≤ NR ∧ s21 = .bool (tl j) ∧ s22 = .int .i64 j ∧ SepC w wr (gdT dd gq mp q hp hb t 40 4 8 8 gl16 (d) :: blkT wb 43 (wdC hp gq q t dd) :: ownT (numE .i64) 3 (.slice AR NR cR_) R :: ownT (numE .i64) 3 (.slice (some ⟨ab, aoff, none⟩) N7 c7) F7 :: [])) (fun _ s22 _ => NR - (intOf s22).toNat)
      case atStart => exact ⟨0, Nat.zero_le _, by rw [htl0.out], rfl, H⟩
      case round =>
        clear H
        obtain ⟨j, hj, rfl, rfl, H⟩ := hrel
        by_cases hlt : j < NR
        · have hltz : (j : Int) < (NR : Int) := by omega
          obtain ⟨rb, roff, x, rfl, _, hx, hxc⟩ := SlN.get (H.pick 2 rfl).own.slg hlt
          have hts := htls.out j x hx
          obtain ⟨eq_, heq⟩ : ∃ eq_, (x == (N : Int)) = eq_ := ⟨_, rfl⟩
          rw [heq] at hts
          replace hts := Lib.hid hts
          generalize tl j = tj at *
          go_upto_region 20 with fail
          go_cut [21] from 103 to 111 (fun cv wx => cv = .bool (tj || eq_) ∧ wx = wr)
          case first => cases tj <;> (go_wp2_with fail; go_meet; exact ⟨rfl, rfl⟩)
          case rest =>
            obtain ⟨rfl, rfl⟩ := hcut
            clear heq
            go_upto_region 21 with fail
            by_cases hj0 : j = 0
            · subst hj0
              have g0 : decide (((0 : Nat) : Int) > 0) = false := rfl
              refine wp_region_noPanic ?_
              refine wp_region_held_drew (S := (fun w' => Chg [] wc w')) (by kernel_rfl) ?_ (fun hHeld => ?_)
              · exact (Chg.refl [] wc).drew
              (refine take_on 0 (some 112) (v := ?_) rfl rfl (by kernel_rfl) (by kernel_rfl) (by kernel_rfl) (fun _ _ _ h => h) (by rfl) (by assumption) ?_ ?_; rotate_left; · (intro w hSw; go_simp; (try with_reducible rfl)))
              (try simp only [Act.put, List.setIfInBounds_toArray, List.set_cons_zero, List.set_cons_succ])
              (refine take_on 1 (some 113) (v := ?_) rfl rfl (by kernel_rfl) (by kernel_rfl) (by kernel_rfl) (fun _ _ _ h => h) (by rfl) (by assumption) ?_ ?_; rotate_left; · (intro w hSw; go_simp; (try with_reducible rfl)))
              (try simp only [Act.put, List.setIfInBounds_toArray, List.set_cons_zero, List.set_cons_succ])
              (refine take_on 2 (some 114) (v := ?_) rfl rfl (by kernel_rfl) (by kernel_rfl) (by kernel_rfl) (fun _ _ _ h => h) (by rfl) (by assumption) ?_ ?_; rotate_left; · (intro w hSw; go_simp; (try with_reducible rfl)))
              (try simp only [Act.put, List.setIfInBounds_toArray, List.set_cons_zero, List.set_cons_succ])
              (refine take_off 3 (some 115) rfl rfl (by kernel_rfl) (by kernel_rfl) (by kernel_rfl) (fun _ _ _ h => h) (by rfl) (by assumption) ?_)
              (try simp only [Act.put, List.setIfInBounds_toArray, List.set_cons_zero, List.set_cons_succ])
              (refine take_off 4 (some 116) rfl rfl (by kernel_rfl) (by kernel_rfl) (by kernel_rfl) (fun _ _ _ h => h) (by rfl) (by assumption) ?_)
              (try simp only [Act.put, List.setIfInBounds_toArray, List.set_cons_zero, List.set_cons_succ])
              (refine take_off 5 (some 117) rfl rfl (by kernel_rfl) (by kernel_rfl) (by kernel_rfl) (fun _ _ _ h => h) (by rfl) (by assumption) ?_)
              (try simp only [Act.put, List.setIfInBounds_toArray, List.set_cons_zero, List.set_cons_succ])
              (refine take_off 6 (some 118) rfl rfl (by kernel_rfl) (by kernel_rfl) (by kernel_rfl) (fun _ _ _ h => h) (by rfl) (by assumption) ?_)
              (try simp only [Act.put, List.setIfInBounds_toArray, List.set_cons_zero, List.set_cons_succ])
              (refine take_off 7 (some 119) rfl rfl (by kernel_rfl) (by kernel_rfl) (by kernel_rfl) (fun _ _ _ h => h) (by rfl) (by assumption) ?_)
              (try simp only [Act.put, List.setIfInBounds_toArray, List.set_cons_zero, List.set_cons_succ])
              (refine take_off 8 (some 120) rfl rfl (by kernel_rfl) (by kernel_rfl) (by kernel_rfl) (fun _ _ _ h => h) (by rfl) (by assumption) ?_)
              (try simp only [Act.put, List.setIfInBounds_toArray, List.set_cons_zero, List.set_cons_succ])
              (refine take_off 9 (some 121) rfl rfl (by kernel_rfl) (by kernel_rfl) (by kernel_rfl) (fun _ _ _ h => h) (by rfl) (by assumption) ?_)
              (try simp only [Act.put, List.setIfInBounds_toArray, List.set_cons_zero, List.set_cons_succ])
              (refine take_off 10 (some 122) rfl rfl (by kernel_rfl) (by kernel_rfl) (by kernel_rfl) (fun _ _ _ h => h) (by rfl) (by assumption) ?_)
              (try simp only [Act.put, List.setIfInBounds_toArray, List.set_cons_zero, List.set_cons_succ])
              (refine take_off 11 (some 123) rfl rfl (by kernel_rfl) (by kernel_rfl) (by kernel_rfl) (fun _ _ _ h => h) (by rfl) (by assumption) ?_)
              (try simp only [Act.put, List.setIfInBounds_toArray, List.set_cons_zero, List.set_cons_succ])
              (refine take_off 12 (some 124) rfl rfl (by kernel_rfl) (by kernel_rfl) (by kernel_rfl) (fun _ _ _ h => h) (by rfl) (by assumption) ?_)
              (try simp only [Act.put, List.setIfInBounds_toArray, List.set_cons_zero, List.set_cons_succ])
              (refine take_on 13 (some 125) (v := ?_) rfl rfl (by kernel_rfl) (by kernel_rfl) (by kernel_rfl) (fun _ _ _ h => h) (by rfl) (by assumption) ?_ ?_; rotate_left; · (intro w hSw; go_simp; (try with_reducible rfl)))
              (try simp only [Act.put, List.setIfInBounds_toArray, List.set_cons_zero, List.set_cons_succ])
              refine wpAnyH_done (by kernel_rfl) ?_ _
              refine NoPanic.normal ?_
              have H5 := H.new hHeld
              clear H hHeld
              go_wp2_with fail
              go_roundw
              case rel => exact ⟨0 + 1, by omega, by rw [hts.out], by go_num, H5⟩
              case measure => simp [intOf]; omega
            · obtain ⟨j1, hj1⟩ : ∃ j1, j1 + 1 = j := ⟨j - 1, by omega⟩
              have g0 : decide ((j : Int) > 0) = true := decide_eq_true (by omega)
              have g0n : 0 < j := by omega
              have g0d : decide (0 < j) = true := decide_eq_true g0n
              have g0z : (j : Int) > 0 := by omega
              obtain ⟨rb2, roff2, x2, e2_, _, hx2, hxc2⟩ := SlN.get (i := j1) (H.pick 2 rfl).own.slg (by omega)
              cases e2_
              have hlt2 : ¬ x ≤ x2 := by have := hle.out j1 x2 x hx2 (by rw [hj1]; exact hx); omega
              have hd2 : decide (x ≤ x2) = false := decide_eq_false hlt2
              have hwr1 : IntKind.i64.wrap ((j : Int) - 1) = (j1 : Int) := by rw [IntWalk.i64_in _ (by omega)]; omega
              have hj1z : (j1 : Int) < (NR : Int) := by omega
              have hlc : ∀ z, Chg [] wc z → z.cell? ⟨rb, roff + j, none⟩ = some (.int .i64 x) ∧ z.cell? ⟨rb, roff + j1, none⟩ = some (.int .i64 x2) := fun z hz => by
                obtain ⟨_, _, y1_, e1_, _, h1_, c1_⟩ := SlN.get (i := j) ((H.new hz).pick 2 rfl).own.slg hlt
                cases e1_; rw [hx] at h1_; cases h1_
                obtain ⟨_, _, y3_, e3_, _, h3_, c3_⟩ := SlN.get (i := j1) ((H.new hz).pick 2 rfl).own.slg (by omega)
                cases e3_; rw [hx2] at h3_; cases h3_
                exact ⟨c1_, c3_⟩
              clear hxc hxc2
              replace hj1 := Lib.hid hj1; replace hx := Lib.hid hx; replace hx2 := Lib.hid hx2
              refine wp_region_noPanic ?_
              refine wp_region_held_drew (S := (fun w' => Chg [] wc w')) (by kernel_rfl) ?_ (fun hHeld => ?_)
              · exact (Chg.refl [] wc).drew
              (refine take_on 0 (some 112) (v := ?_) rfl rfl (by kernel_rfl) (by kernel_rfl) (by kernel_rfl) (fun _ _ _ h => h) (by rfl) (by assumption) ?_ ?_; rotate_left; · (intro w hSw; go_simp; (try with_reducible rfl)))
              (try simp only [Act.put, List.setIfInBounds_toArray, List.set_cons_zero, List.set_cons_succ])
              (refine take_on 1 (some 113) (v := ?_) rfl rfl (by kernel_rfl) (by kernel_rfl) (by kernel_rfl) (fun _ _ _ h => h) (by rfl) (by assumption) ?_ ?_; rotate_left; · (intro w hSw; go_simp; (try with_reducible rfl)))
              (try simp only [Act.put, List.setIfInBounds_toArray, List.set_cons_zero, List.set_cons_succ])
              (refine take_on 2 (some 114) (v := ?_) rfl rfl (by kernel_rfl) (by kernel_rfl) (by kernel_rfl) (fun _ _ _ h => h) (by rfl) (by assumption) ?_ ?_; rotate_left; · (intro w hSw; go_simp; (try with_reducible rfl)))
              (try simp only [Act.put, List.setIfInBounds_toArray, List.set_cons_zero, List.set_cons_succ])
              (refine take_on 3 (some 115) (v := ?_) rfl rfl (by kernel_rfl) (by kernel_rfl) (by kernel_rfl) (fun _ _ _ h => h) (by rfl) (by assumption) ?_ ?_; rotate_left; · (intro w hSw; go_simp; (try with_reducible rfl)))
              (try simp only [Act.put, List.setIfInBounds_toArray, List.set_cons_zero, List.set_cons_succ])
              (refine take_on 4 (some 116) (v := ?_) rfl rfl (by kernel_rfl) (by kernel_rfl) (by kernel_rfl) (fun _ _ _ h => h) (by rfl) (by assumption) ?_ ?_; rotate_left; · (intro w hSw; go_simp; (try with_reducible rfl)))
              (try simp only [Act.put, List.setIfInBounds_toArray, List.set_cons_zero, List.set_cons_succ])
              (refine take_on 5 (some 117) (v := ?_) rfl rfl (by kernel_rfl) (by kernel_rfl) (by kernel_rfl) (fun _ _ _ h => h) (by rfl) (by assumption) ?_ ?_; rotate_left; · (intro w hSw; go_simp; (try with_reducible rfl)))
              (try simp only [Act.put, List.setIfInBounds_toArray, List.set_cons_zero, List.set_cons_succ])
              (refine take_on 6 (some 118) (v := ?_) rfl rfl (by kernel_rfl) (by kernel_rfl) (by kernel_rfl) (fun _ _ _ h => h) (by rfl) (by assumption) ?_ ?_; rotate_left; · (intro w hSw; (try dsimp only at hSw); obtain ⟨s1_, s2_⟩ := hlc _ hSw; go_simp; (try with_reducible rfl)))
              (try simp only [Act.put, List.setIfInBounds_toArray, List.set_cons_zero, List.set_cons_succ])
              (refine take_on 7 (some 119) (v := ?_) rfl rfl (by kernel_rfl) (by kernel_rfl) (by kernel_rfl) (fun _ _ _ h => h) (by rfl) (by assumption) ?_ ?_; rotate_left; · (intro w hSw; go_simp; (try with_reducible rfl)))
              (try simp only [Act.put, List.setIfInBounds_toArray, List.set_cons_zero, List.set_cons_succ])
              (refine take_on 8 (some 120) (v := ?_) rfl rfl (by kernel_rfl) (by kernel_rfl) (by kernel_rfl) (fun _ _ _ h => h) (by rfl) (by assumption) ?_ ?_; rotate_left; · (intro w hSw; go_simp; (try with_reducible rfl)))
              (try simp only [Act.put, List.setIfInBounds_toArray, List.set_cons_zero, List.set_cons_succ])
              (refine take_on 9 (some 121) (v := ?_) rfl rfl (by kernel_rfl) (by kernel_rfl) (by kernel_rfl) (fun _ _ _ h => h) (by rfl) (by assumption) ?_ ?_; rotate_left; · (intro w hSw; go_simp; (try with_reducible rfl)))
              (try simp only [Act.put, List.setIfInBounds_toArray, List.set_cons_zero, List.set_cons_succ])
              (refine take_on 10 (some 122) (v := ?_) rfl rfl (by kernel_rfl) (by kernel_rfl) (by kernel_rfl) (fun _ _ _ h => h) (by rfl) (by assumption) ?_ ?_; rotate_left; · (intro w hSw; go_simp; (try with_reducible rfl)))
              (try simp only [Act.put, List.setIfInBounds_toArray, List.set_cons_zero, List.set_cons_succ])
              (refine take_on 11 (some 123) (v := ?_) rfl rfl (by kernel_rfl) (by kernel_rfl) (by kernel_rfl) (fun _ _ _ h => h) (by rfl) (by assumption) ?_ ?_; rotate_left; · (intro w hSw; (try dsimp only at hSw); obtain ⟨s1_, s2_⟩ := hlc _ hSw; go_simp; (try with_reducible rfl)))
              (try simp only [Act.put, List.setIfInBounds_toArray, List.set_cons_zero, List.set_cons_succ])
              (refine take_on 12 (some 124) (v := ?_) rfl rfl (by kernel_rfl) (by kernel_rfl) (by kernel_rfl) (fun _ _ _ h => h) (by rfl) (by assumption) ?_ ?_; rotate_left; · (intro w hSw; go_simp; (try with_reducible rfl)))
              (try simp only [Act.put, List.setIfInBounds_toArray, List.set_cons_zero, List.set_cons_succ])
              (refine take_on 13 (some 125) (v := ?_) rfl rfl (by kernel_rfl) (by kernel_rfl) (by kernel_rfl) (fun _ _ _ h => h) (by rfl) (by assumption) ?_ ?_; rotate_left; · (intro w hSw; go_simp; (try with_reducible rfl)))
              (try simp only [Act.put, List.setIfInBounds_toArray, List.set_cons_zero, List.set_cons_succ])
              refine wpAnyH_done (by kernel_rfl) ?_ _
              refine NoPanic.normal ?_
              have H5 := H.new hHeld
              clear H hHeld hlc
              go_wp2_with fail
              go_roundw
              case rel => exact ⟨j + 1, by omega, by rw [hts.out], by go_num, H5⟩
              case measure => simp [intOf]; omega
        · have ej : NR = j := by omega
          subst ej
          have hltz : ¬ (NR : Int) < (NR : Int) := by omega
          rw [htle.out]
          have hcF := cF H
          clear cF
          generalize hfv : findV d.s.L ⟨root, 3, 0⟩ = fv at *
          generalize his : (pgOf d.s.L ⟨root, 3, 0⟩).isSome = is_ at *
          obtain ⟨hI1, hI2⟩ : (is_ = true → levP d.s.L fv = ((3 : Nat) : Int)) ∧ bb = (false || (is_ && passL d.s.L p k8 3 fv (N % 8 ^ 3))) := by
            cases hp_ : pgOf d.s.L ⟨root, 3, 0⟩ with
            | none => rw [hp_] at his; have e_ : is_ = false := his.symm; subst e_; exact ⟨(fun h => by cases h), by rw [hpn hp_]; rfl⟩
            | some t_ => rw [hp_] at his; have e_ : is_ = true := his.symm; subst e_; have e2_ : fv = t_.f := by rw [← hfv]; unfold findV; rw [hp_]; rfl
                         subst e2_; exact ⟨fun _ => hpf t_ hp_, by rw [hpt t_ hp_, Nat.mod_eq_of_lt (by omega)]; simp⟩
          clear hpf hpt hpn hfv his
          replace hI1 := Lib.hid hI1; replace hI2 := Lib.hid hI2
          obtain ⟨w0_, w1_, w2_, w3_, w4_⟩ := wdC_cells (H.pick 1 rfl).blk
          go_wp2_with fail
          refine hcF.mono ?_; rintro e z9 ⟨rfl, y_⟩
          replace H := H.new y_
          clear hcF y_ w0_ w1_ w2_ w3_ w4_
          go_wp2_with fail
          go_loopw [23, 24, 25, 26] (fun s23 s24 s25 s26 wr => ∃ (lv : Nat) (f : Int) (b_ ps : Bool), lv ≤ 3 ∧ s23 = .int .i64 f ∧ s24 = .bool b_ ∧ s25 = .bool ps ∧ s26 = .int .i64 (lv : Nat) ∧ Aside (b_ = true → levP d.s.L f = (lv : Int)) ∧ Aside (bb = (ps || (b_ && passL d.s.L p k8 lv f (N % 8 ^ lv)))) ∧ SepC w wr (gdT dd gq mp q hp hb t 40 4 8 8 gl16 (d) :: blkT wb 43 (wdC hp gq q t dd) :: ownT (numE .i64) 3 (.slice AR NR cR_) R :: ownT (numE .i64) 3 (.slice (some ⟨ab, aoff, none⟩) N7 c7) F7 :: [])) (fun _ _ _ s26 _ => (intOf s26).toNat)
          case atStart => exact ⟨3, fv, is_, false, by omega, rfl, rfl, rfl, rfl, (show Aside _ from hI1.out), (show Aside _ from hI2.out), H⟩
          case round =>
            clear H hI1 hI2
            obtain ⟨lv, f, b_, ps, hlv, rfl, rfl, rfl, rfl, hA1, hA2, H⟩ := hrel
            cases b_
            · have g_ : (true && false) = false := rfl
              by_cases hl1 : 1 ≤ lv
              · have hz1 : ((lv : Nat) : Int) ≥ 1 := by omega
                have ebb : bb = ps := by rw [hA2.out]; simp
                replace ebb := Lib.hid ebb
                go_wp2_with fail
                go_ret
                exact ⟨by rw [ebb.out]; cases ps <;> rfl, H.1⟩
              · have hz1 : ¬ ((lv : Nat) : Int) ≥ 1 := by omega
                have ebb : bb = ps := by rw [hA2.out]; simp
                replace ebb := Lib.hid ebb
                go_wp2_with fail
                go_ret
                exact ⟨by rw [ebb.out]; cases ps <;> rfl, H.1⟩
            · have hl0 := hA1.out rfl
              by_cases hl1 : 1 ≤ lv
              · obtain ⟨l1, rfl⟩ : ∃ l1, lv = l1 + 1 := ⟨lv - 1, by omega⟩
                have hz1 : (((l1 + 1 : Nat)) : Int) ≥ 1 := by omega
                have hps := pass_step d.s.L p k8 N l1 f
                have hix := idx_at hN5 (lv := l1) (by omega)
                obtain ⟨X, hX, hX8⟩ : ∃ X : Nat, N / 8 ^ l1 % 8 = X ∧ X < 8 := ⟨_, rfl, Nat.mod_lt _ (by omega)⟩
                rw [hX] at hps hix
                clear hX
                obtain ⟨hfr, _⟩ := page_slots hok (qq := f) (by omega)
                have cI := fun z => RIdx_any (N : Int) ((l1 + 1 : Nat) : Int) z
                rw [hix] at cI
                have cS := fun {z : World} {l_ : List Th} (H' : SepC w z (gdT dd gq mp q hp hb t 40 4 8 8 gl16 (d) :: l_)) => H'.kSlot f (X : Int) hfr
                rw [show slotV d.s.L f (X : Int) = slV d.s.L (f, (X : Int)) from rfl] at cS
                have hkl := fun hk => kid_lev hok (q := f) (i := (X : Int)) hk
                have hbb := hA2.out
                rw [hps] at hbb
                generalize (slotP d.s.L f (X : Int)).isSome = i2 at *
                generalize slV d.s.L (f, (X : Int)) = x at *
                obtain ⟨kd, to_, ⟨rw_, ru, rx⟩⟩ := x
                simp only [Slt.cl] at cS
                simp only at hkl hbb
                clear hps hix hA1 hA2
                obtain ⟨fe, hfe⟩ : ∃ fe, (f == p) = fe := ⟨_, rfl⟩
                obtain ⟨xe, hxe⟩ : ∃ xe, ((X : Int) == (k8 : Int)) = xe := ⟨_, rfl⟩
                have hde : decide (f = p ∧ (X : Int) = (k8 : Int)) = (fe && xe) := by rw [← hfe, ← hxe]; exact Bool.eq_iff_iff.2 (by simp)
                rw [hde] at hbb
                replace hbb := Lib.hid hbb
                clear hde
                go_upto_region 28 with fail
                go_cut [25] from 143 to 155 (fun cv wx => cv = .bool (ps || (fe && xe)) ∧ SepC w wx (gdT dd gq mp q hp hb t 40 4 8 8 gl16 (d) :: blkT wb 43 (wdC hp gq q t dd) :: ownT (numE .i64) 3 (.slice AR NR cR_) R :: ownT (numE .i64) 3 (.slice (some ⟨ab, aoff, none⟩) N7 c7) F7 :: []))
                case first =>
                  cases ps
                  · cases fe
                    · go_wp2_with fail
                      go_meet
                      exact ⟨rfl, H⟩
                    · go_wp2_with fail
                      refine (cI _).mono ?_; rintro e z10 ⟨rfl, y_⟩
                      replace H := H.new y_.chg
                      go_wp2_with fail
                      go_meet
                      exact ⟨rfl, H⟩
                  · go_wp2_with fail
                    go_meet
                    exact ⟨rfl, H⟩
                case rest =>
                  obtain ⟨rfl, H⟩ := hcut
                  obtain ⟨ps2, hps2⟩ : ∃ ps2, (ps || (fe && xe)) = ps2 := ⟨_, rfl⟩
                  rw [hps2]
                  replace hps2 := Lib.hid hps2
                  go_upto_region 29 with fail
                  skip
                  go_cut [27, 28] from 156 to 167 (fun xv iv wx => ∃ sb : Nat, xv = .pointer (some ⟨sb, 0, none⟩) ∧ iv = .bool i2 ∧ SepC w wx (blkT sb 60 #[.int .i64 kd, .int .i64 to_, .bool rw_, .bool ru, .bool rx] :: gdT dd gq mp q hp hb t 40 4 8 8 gl16 (d) :: blkT wb 43 (wdC hp gq q t dd) :: ownT (numE .i64) 3 (.slice AR NR cR_) R :: ownT (numE .i64) 3 (.slice (some ⟨ab, aoff, none⟩) N7 c7) F7 :: []))
                  case first =>
                    have hwq : ∀ z, Chg [] wc z → z.cell? ⟨wb, 2, none⟩ = some (.pointer (some ⟨q, 0, none⟩)) := fun z hz => (wdC_cells ((H.new hz).pick 1 rfl).blk).2.2.1
                    have HH := H.new (Chg.refl [] wc).drew
                    refine wp_region_noPanic ?_
                    refine wp_region_held_drew (S := (fun w' => Chg [] wc w')) (by kernel_rfl) ?_ (fun hHeld => ?_)
                    · exact (Chg.refl [] wc).drew
                    (refine take_on 0 (some 157) (v := ?_) rfl rfl (by kernel_rfl) (by kernel_rfl) (by kernel_rfl) (fun _ _ _ h => h) (by rfl) (by assumption) ?_ ?_; rotate_left; · (intro w hSw; (try dsimp only at hSw); go_simp; (try with_reducible rfl)))
                    (try simp only [Act.put, List.setIfInBounds_toArray, List.set_cons_zero, List.set_cons_succ])
                    (refine take_on 1 (some 158) (v := ?_) rfl rfl (by kernel_rfl) (by kernel_rfl) (by kernel_rfl) (fun _ _ _ h => h) (by rfl) (by assumption) ?_ ?_; rotate_left; · (intro w hSw; (try dsimp only at hSw); go_simp; (try with_reducible rfl)))
                    (try simp only [Act.put, List.setIfInBounds_toArray, List.set_cons_zero, List.set_cons_succ])
                    (refine take_on 2 (some 159) (v := ?_) rfl rfl (by kernel_rfl) (by kernel_rfl) (by kernel_rfl) (fun _ _ _ h => h) (by rfl) (by assumption) ?_ ?_; rotate_left; · (intro w hSw; (try dsimp only at hSw); go_simp; (try with_reducible rfl)))
                    (try simp only [Act.put, List.setIfInBounds_toArray, List.set_cons_zero, List.set_cons_succ])
                    (refine take_on 3 (some 160) (v := ?_) rfl rfl (by kernel_rfl) (by kernel_rfl) (by kernel_rfl) (fun _ _ _ h => h) (by rfl) (by assumption) ?_ ?_; rotate_left; · (intro w hSw; (try dsimp only at hSw); have d_ := hwq _ hSw; go_simp; (try with_reducible rfl)))
                    (try simp only [Act.put, List.setIfInBounds_toArray, List.set_cons_zero, List.set_cons_succ])
                    (refine take_on 4 (some 161) (v := ?_) rfl rfl (by kernel_rfl) (by kernel_rfl) (by kernel_rfl) (fun _ _ _ h => h) (by rfl) (by assumption) ?_ ?_; rotate_left; · (intro w hSw; (try dsimp only at hSw); go_simp; (try with_reducible rfl)))
                    (try simp only [Act.put, List.setIfInBounds_toArray, List.set_cons_zero, List.set_cons_succ])
                    (refine take_on 5 (some 162) (v := ?_) rfl rfl (by kernel_rfl) (by kernel_rfl) (by kernel_rfl) (fun _ _ _ h => h) (by rfl) (by assumption) ?_ ?_; rotate_left; · (intro w hSw; (try dsimp only at hSw); go_simp; (try with_reducible rfl)))
                    (try simp only [Act.put, List.setIfInBounds_toArray, List.set_cons_zero, List.set_cons_succ])
                    (refine take_on 6 (some 163) (v := ?_) rfl rfl (by kernel_rfl) (by kernel_rfl) (by kernel_rfl) (fun _ _ _ h => h) (by rfl) (by assumption) ?_ ?_; rotate_left; · (intro w hSw; (try dsimp only at hSw); go_simp; (try with_reducible rfl)))
                    (try simp only [Act.put, List.setIfInBounds_toArray, List.set_cons_zero, List.set_cons_succ])
                    refine wpAnyH_ready (rs := [7, 12]) (by kernel_rfl) (by simp) ?_; refine AllReadyH.cons (o := _) rfl (fun K_ hK => ?_) (AllReadyH.cons (o := _) rfl (fun K_ hK => ?_) AllReadyH.nil)
                    · go_simp
                      (go_at_call 32; refine (cI _).mono ?_; rintro e u1_ ⟨rfl, y1⟩; have y1 := y1.chg)
                      refine hK.out _ _ (by (try dsimp only); exact hHeld.trans y1 (by simp)) (fun hHeld => ?_)
                      clear hK K_
                      (try simp only [Act.put, List.setIfInBounds_toArray, List.set_cons_zero, List.set_cons_succ])
                      replace HH := HH.new y1
                      clear y1
                      refine wpAnyH_ready (rs := [8, 12]) (by kernel_rfl) (by simp) ?_; refine AllReadyH.cons (o := _) rfl (fun K_ hK => ?_) (AllReadyH.cons (o := _) rfl (fun K_ hK => ?_) AllReadyH.nil)
                      · go_simp
                        (go_at_call 25; refine (cS HH).mono ?_; rintro e u2_ ⟨rfl, y1⟩)
                        refine hK.out _ _ (by (try dsimp only); exact hHeld.trans y1 (by simp)) (fun hHeld => ?_)
                        clear hK K_
                        (try simp only [Act.put, List.setIfInBounds_toArray, List.set_cons_zero, List.set_cons_succ])
                        replace HH := HH.new y1
                        clear y1
                        (refine take_on 9 (some 156) (v := ?_) rfl rfl (by kernel_rfl) (by kernel_rfl) (by kernel_rfl) (fun _ _ _ h => h) (by rfl) (by assumption) ?_ ?_; rotate_left; · (intro w hSw; go_simp; (try with_reducible rfl)))
                        (try simp only [Act.put, List.setIfInBounds_toArray, List.set_cons_zero, List.set_cons_succ])
                        (refine take_on 10 (some 166) (v := ?_) rfl rfl (by kernel_rfl) (by kernel_rfl) (by kernel_rfl) (fun _ _ _ h => h) (by rfl) (by assumption) ?_ ?_; rotate_left; · (intro w hSw; go_simp; (try with_reducible rfl)))
                        (try simp only [Act.put, List.setIfInBounds_toArray, List.set_cons_zero, List.set_cons_succ])
                        (refine take_on 11 (some 167) (v := ?_) rfl rfl (by kernel_rfl) (by kernel_rfl) (by kernel_rfl) (fun _ _ _ h => h) (by rfl) (by assumption) ?_ ?_; rotate_left; · (intro w hSw; go_simp; (try with_reducible rfl)))
                        (try simp only [Act.put, List.setIfInBounds_toArray, List.set_cons_zero, List.set_cons_succ])
                        have hsb : wc.heap.size ≤ u2_.heap.size := hHeld.size
                        refine wpAnyH_ready (rs := [12]) (by kernel_rfl) (by simp) ?_; refine AllReadyH.cons (o := _) rfl (fun K_ hK => ?_) AllReadyH.nil
                        go_simp
                        refine hK.out _ _ (by (try dsimp only); exact hHeld.alloc _) (fun hHeld => ?_)
                        clear hK K_
                        (try simp only [Act.put, List.setIfInBounds_toArray, List.set_cons_zero, List.set_cons_succ])
                        replace HH := HH.alloc #[.int .i64 0, .int .i64 0, .bool false, .bool false, .bool false] 60
                        generalize u2_.alloc (.cells #[.int .i64 0, .int .i64 0, .bool false, .bool false, .bool false] 60) = v3 at *
                        generalize u2_.heap.size = sb at *
                        have e0_ := HH.blk.cell 0; have f0_ := HH.blk.frozen 0
                        have e1_ := HH.blk.cell 1; have f1_ := HH.blk.frozen 1
                        have e2_ := HH.blk.cell 2; have f2_ := HH.blk.frozen 2
                        have e3_ := HH.blk.cell 3; have f3_ := HH.blk.frozen 3
                        have e4_ := HH.blk.cell 4; have f4_ := HH.blk.frozen 4
                        simp only [List.getElem?_toArray, List.getElem?_cons_zero, List.getElem?_cons_succ] at e0_ e1_ e2_ e3_ e4_
                        have HH3 := (((((HH).cellSet 0 (.int .i64 kd)).cellSet 1 (.int .i64 to_)).cellSet 2 (.bool rw_)).cellSet 3 (.bool ru)).cellSet 4 (.bool rx)
                        simp only [List.setIfInBounds_toArray, List.set_cons_zero, List.set_cons_succ] at HH3
                        have hY : Chg [sb] v3 (((((v3.setCell ⟨sb, 0, none⟩ (.int .i64 kd)).setCell ⟨sb, 1, none⟩ (.int .i64 to_)).setCell ⟨sb, 2, none⟩ (.bool rw_)).setCell ⟨sb, 3, none⟩ (.bool ru)).setCell ⟨sb, 4, none⟩ (.bool rx)) := ((((((Chg.refl [sb] v3).setCell (p := ⟨sb, 0, none⟩) (by simp) _).setCell (p := ⟨sb, 1, none⟩) (by simp) _).setCell (p := ⟨sb, 2, none⟩) (by simp) _).setCell (p := ⟨sb, 3, none⟩) (by simp) _).setCell (p := ⟨sb, 4, none⟩) (by simp) _)
                        refine wpAnyH_ready (rs := [13]) (by kernel_rfl) (by simp) ?_; refine AllReadyH.cons (o := _) rfl (fun K_ hK => ?_) AllReadyH.nil
                        go_simp
                        refine hK.out _ _ (by (try dsimp only); exact hHeld.trans hY (fun i hi hm => by simp at hm; omega)) (fun hHeld => ?_)
                        clear hK K_
                        (try simp only [Act.put, List.setIfInBounds_toArray, List.set_cons_zero, List.set_cons_succ])
                        clear e0_ f0_ e1_ f1_ e2_ f2_ e3_ f3_ e4_ f4_ hY HH hsb
                        generalize (((((v3.setCell ⟨sb, 0, none⟩ (.int .i64 kd)).setCell ⟨sb, 1, none⟩ (.int .i64 to_)).setCell ⟨sb, 2, none⟩ (.bool rw_)).setCell ⟨sb, 3, none⟩ (.bool ru)).setCell ⟨sb, 4, none⟩ (.bool rx)) = u3 at *
                        (refine take_on 14 (some 28) (v := ?_) rfl rfl (by kernel_rfl) (by kernel_rfl) (by kernel_rfl) (fun _ _ _ h => h) (by rfl) (by assumption) ?_ ?_; rotate_left; · (intro w hSw; (try dsimp only at hSw); go_simp; (try with_reducible rfl)))
                        (try simp only [Act.put, List.setIfInBounds_toArray, List.set_cons_zero, List.set_cons_succ])
                        refine wpAnyH_done (by kernel_rfl) ?_ _
                        refine NoPanic.normal ?_
                        clear hHeld H
                        clear cS cI hwq
                        go_wp2_with fail
                        go_meet
                        exact ⟨sb, rfl, rfl, HH3⟩
                      · have hsb : wc.heap.size ≤ u1_.heap.size := hHeld.size
                        go_simp
                        refine hK.out _ _ (by (try dsimp only); exact hHeld.alloc _) (fun hHeld => ?_)
                        clear hK K_
                        (try simp only [Act.put, List.setIfInBounds_toArray, List.set_cons_zero, List.set_cons_succ])
                        replace HH := HH.alloc #[.int .i64 0, .int .i64 0, .bool false, .bool false, .bool false] 60
                        generalize u1_.alloc (.cells #[.int .i64 0, .int .i64 0, .bool false, .bool false, .bool false] 60) = v4 at *
                        generalize u1_.heap.size = sb at *
                        refine wpAnyH_ready (rs := [8]) (by kernel_rfl) (by simp) ?_; refine AllReadyH.cons (o := _) rfl (fun K_ hK => ?_) AllReadyH.nil
                        go_simp
                        (go_at_call 25; refine (cS HH.tail).mono ?_; rintro e u5_ ⟨rfl, y1⟩)
                        refine hK.out _ _ (by (try dsimp only); exact hHeld.trans y1 (by simp)) (fun hHeld => ?_)
                        clear hK K_
                        (try simp only [Act.put, List.setIfInBounds_toArray, List.set_cons_zero, List.set_cons_succ])
                        replace HH := HH.new y1
                        clear y1
                        (refine take_on 9 (some 156) (v := ?_) rfl rfl (by kernel_rfl) (by kernel_rfl) (by kernel_rfl) (fun _ _ _ h => h) (by rfl) (by assumption) ?_ ?_; rotate_left; · (intro w hSw; go_simp; (try with_reducible rfl)))
                        (try simp only [Act.put, List.setIfInBounds_toArray, List.set_cons_zero, List.set_cons_succ])
                        (refine take_on 10 (some 166) (v := ?_) rfl rfl (by kernel_rfl) (by kernel_rfl) (by kernel_rfl) (fun _ _ _ h => h) (by rfl) (by assumption) ?_ ?_; rotate_left; · (intro w hSw; go_simp; (try with_reducible rfl)))
                        (try simp only [Act.put, List.setIfInBounds_toArray, List.set_cons_zero, List.set_cons_succ])
                        (refine take_on 11 (some 167) (v := ?_) rfl rfl (by kernel_rfl) (by kernel_rfl) (by kernel_rfl) (fun _ _ _ h => h) (by rfl) (by assumption) ?_ ?_; rotate_left; · (intro w hSw; go_simp; (try with_reducible rfl)))
                        (try simp only [Act.put, List.setIfInBounds_toArray, List.set_cons_zero, List.set_cons_succ])
                        have e0_ := HH.blk.cell 0; have f0_ := HH.blk.frozen 0
                        have e1_ := HH.blk.cell 1; have f1_ := HH.blk.frozen 1
                        have e2_ := HH.blk.cell 2; have f2_ := HH.blk.frozen 2
                        have e3_ := HH.blk.cell 3; have f3_ := HH.blk.frozen 3
                        have e4_ := HH.blk.cell 4; have f4_ := HH.blk.frozen 4
                        simp only [List.getElem?_toArray, List.getElem?_cons_zero, List.getElem?_cons_succ] at e0_ e1_ e2_ e3_ e4_
                        have HH3 := (((((HH).cellSet 0 (.int .i64 kd)).cellSet 1 (.int .i64 to_)).cellSet 2 (.bool rw_)).cellSet 3 (.bool ru)).cellSet 4 (.bool rx)
                        simp only [List.setIfInBounds_toArray, List.set_cons_zero, List.set_cons_succ] at HH3
                        have hY : Chg [sb] u5_ (((((u5_.setCell ⟨sb, 0, none⟩ (.int .i64 kd)).setCell ⟨sb, 1, none⟩ (.int .i64 to_)).setCell ⟨sb, 2, none⟩ (.bool rw_)).setCell ⟨sb, 3, none⟩ (.bool ru)).setCell ⟨sb, 4, none⟩ (.bool rx)) := ((((((Chg.refl [sb] u5_).setCell (p := ⟨sb, 0, none⟩) (by simp) _).setCell (p := ⟨sb, 1, none⟩) (by simp) _).setCell (p := ⟨sb, 2, none⟩) (by simp) _).setCell (p := ⟨sb, 3, none⟩) (by simp) _).setCell (p := ⟨sb, 4, none⟩) (by simp) _)
                        refine wpAnyH_ready (rs := [13]) (by kernel_rfl) (by simp) ?_; refine AllReadyH.cons (o := _) rfl (fun K_ hK => ?_) AllReadyH.nil
                        go_simp
                        refine hK.out _ _ (by (try dsimp only); exact hHeld.trans hY (fun i hi hm => by simp at hm; omega)) (fun hHeld => ?_)
                        clear hK K_
                        (try simp only [Act.put, List.setIfInBounds_toArray, List.set_cons_zero, List.set_cons_succ])
                        clear e0_ f0_ e1_ f1_ e2_ f2_ e3_ f3_ e4_ f4_ hY HH hsb
                        generalize (((((u5_.setCell ⟨sb, 0, none⟩ (.int .i64 kd)).setCell ⟨sb, 1, none⟩ (.int .i64 to_)).setCell ⟨sb, 2, none⟩ (.bool rw_)).setCell ⟨sb, 3, none⟩ (.bool ru)).setCell ⟨sb, 4, none⟩ (.bool rx)) = u3 at *
                        (refine take_on 14 (some 28) (v := ?_) rfl rfl (by kernel_rfl) (by kernel_rfl) (by kernel_rfl) (fun _ _ _ h => h) (by rfl) (by assumption) ?_ ?_; rotate_left; · (intro w hSw; (try dsimp only at hSw); go_simp; (try with_reducible rfl)))
                        (try simp only [Act.put, List.setIfInBounds_toArray, List.set_cons_zero, List.set_cons_succ])
                        refine wpAnyH_done (by kernel_rfl) ?_ _
                        refine NoPanic.normal ?_
                        clear hHeld H
                        clear cS cI hwq
                        go_wp2_with fail
                        go_meet
                        exact ⟨sb, rfl, rfl, HH3⟩
                    · clear HH
                      go_simp
                      refine hK.out _ _ (by (try dsimp only); exact ((Chg.refl [] wc).alloc _).drew) (fun hHeld => ?_)
                      clear hK K_
                      (try simp only [Act.put, List.setIfInBounds_toArray, List.set_cons_zero, List.set_cons_succ])
                      have HH := (H.alloc #[.int .i64 0, .int .i64 0, .bool false, .bool false, .bool false] 60).new (Chg.refl [] _).drew
                      have hsb : wc.heap.size ≤ wc.heap.size := Nat.le_refl _
                      generalize (wc.alloc (.cells #[.int .i64 0, .int .i64 0, .bool false, .bool false, .bool false] 60)).drew = v6 at *
                      generalize hsb_ : wc.heap.size = sb at hsb HH ⊢
                      clear hsb
                      have hsb : wc.heap.size ≤ sb := by omega
                      clear hsb_
                      refine wpAnyH_ready (rs := [7]) (by kernel_rfl) (by simp) ?_; refine AllReadyH.cons (o := _) rfl (fun K_ hK => ?_) AllReadyH.nil
                      go_simp
                      (go_at_call 32; refine (cI _).mono ?_; rintro e u7_ ⟨rfl, y1⟩; have y1 := y1.chg)
                      refine hK.out _ _ (by (try dsimp only); exact hHeld.trans y1 (by simp)) (fun hHeld => ?_)
                      clear hK K_
                      (try simp only [Act.put, List.setIfInBounds_toArray, List.set_cons_zero, List.set_cons_succ])
                      replace HH := HH.new y1
                      clear y1
                      refine wpAnyH_ready (rs := [8]) (by kernel_rfl) (by simp) ?_; refine AllReadyH.cons (o := _) rfl (fun K_ hK => ?_) AllReadyH.nil
                      go_simp
                      (go_at_call 25; refine (cS HH.tail).mono ?_; rintro e u8_ ⟨rfl, y1⟩)
                      refine hK.out _ _ (by (try dsimp only); exact hHeld.trans y1 (by simp)) (fun hHeld => ?_)
                      clear hK K_
                      (try simp only [Act.put, List.setIfInBounds_toArray, List.set_cons_zero, List.set_cons_succ])
                      replace HH := HH.new y1
                      clear y1
                      (refine take_on 9 (some 156) (v := ?_) rfl rfl (by kernel_rfl) (by kernel_rfl) (by kernel_rfl) (fun _ _ _ h => h) (by rfl) (by assumption) ?_ ?_; rotate_left; · (intro w hSw; go_simp; (try with_reducible rfl)))
                      (try simp only [Act.put, List.setIfInBounds_toArray, List.set_cons_zero, List.set_cons_succ])
                      (refine take_on 10 (some 166) (v := ?_) rfl rfl (by kernel_rfl) (by kernel_rfl) (by kernel_rfl) (fun _ _ _ h => h) (by rfl) (by assumption) ?_ ?_; rotate_left; · (intro w hSw; go_simp; (try with_reducible rfl)))
                      (try simp only [Act.put, List.setIfInBounds_toArray, List.set_cons_zero, List.set_cons_succ])
                      (refine take_on 11 (some 167) (v := ?_) rfl rfl (by kernel_rfl) (by kernel_rfl) (by kernel_rfl) (fun _ _ _ h => h) (by rfl) (by assumption) ?_ ?_; rotate_left; · (intro w hSw; go_simp; (try with_reducible rfl)))
                      (try simp only [Act.put, List.setIfInBounds_toArray, List.set_cons_zero, List.set_cons_succ])
                      have e0_ := HH.blk.cell 0; have f0_ := HH.blk.frozen 0
                      have e1_ := HH.blk.cell 1; have f1_ := HH.blk.frozen 1
                      have e2_ := HH.blk.cell 2; have f2_ := HH.blk.frozen 2
                      have e3_ := HH.blk.cell 3; have f3_ := HH.blk.frozen 3
                      have e4_ := HH.blk.cell 4; have f4_ := HH.blk.frozen 4
                      simp only [List.getElem?_toArray, List.getElem?_cons_zero, List.getElem?_cons_succ] at e0_ e1_ e2_ e3_ e4_
                      have HH3 := (((((HH).cellSet 0 (.int .i64 kd)).cellSet 1 (.int .i64 to_)).cellSet 2 (.bool rw_)).cellSet 3 (.bool ru)).cellSet 4 (.bool rx)
                      simp only [List.setIfInBounds_toArray, List.set_cons_zero, List.set_cons_succ] at HH3
                      have hY : Chg [sb] u8_ (((((u8_.setCell ⟨sb, 0, none⟩ (.int .i64 kd)).setCell ⟨sb, 1, none⟩ (.int .i64 to_)).setCell ⟨sb, 2, none⟩ (.bool rw_)).setCell ⟨sb, 3, none⟩ (.bool ru)).setCell ⟨sb, 4, none⟩ (.bool rx)) := ((((((Chg.refl [sb] u8_).setCell (p := ⟨sb, 0, none⟩) (by simp) _).setCell (p := ⟨sb, 1, none⟩) (by simp) _).setCell (p := ⟨sb, 2, none⟩) (by simp) _).setCell (p := ⟨sb, 3, none⟩) (by simp) _).setCell (p := ⟨sb, 4, none⟩) (by simp) _)
                      refine wpAnyH_ready (rs := [13]) (by kernel_rfl) (by simp) ?_; refine AllReadyH.cons (o := _) rfl (fun K_ hK => ?_) AllReadyH.nil
                      go_simp
                      refine hK.out _ _ (by (try dsimp only); exact hHeld.trans hY (fun i hi hm => by simp at hm; omega)) (fun hHeld => ?_)
                      clear hK K_
                      (try simp only [Act.put, List.setIfInBounds_toArray, List.set_cons_zero, List.set_cons_succ])
                      clear e0_ f0_ e1_ f1_ e2_ f2_ e3_ f3_ e4_ f4_ hY HH hsb
                      generalize (((((u8_.setCell ⟨sb, 0, none⟩ (.int .i64 kd)).setCell ⟨sb, 1, none⟩ (.int .i64 to_)).setCell ⟨sb, 2, none⟩ (.bool rw_)).setCell ⟨sb, 3, none⟩ (.bool ru)).setCell ⟨sb, 4, none⟩ (.bool rx)) = u3 at *
                      (refine take_on 14 (some 28) (v := ?_) rfl rfl (by kernel_rfl) (by kernel_rfl) (by kernel_rfl) (fun _ _ _ h => h) (by rfl) (by assumption) ?_ ?_; rotate_left; · (intro w hSw; (try dsimp only at hSw); go_simp; (try with_reducible rfl)))
                      (try simp only [Act.put, List.setIfInBounds_toArray, List.set_cons_zero, List.set_cons_succ])
                      refine wpAnyH_done (by kernel_rfl) ?_ _
                      refine NoPanic.normal ?_
                      clear hHeld H
                      clear cS cI hwq
                      go_wp2_with fail
                      go_meet
                      exact ⟨sb, rfl, rfl, HH3⟩
                  case rest =>
                    obtain ⟨sb, rfl, rfl, H3⟩ := hcut
                    clear H cS cI
                    have e0_ := H3.blk.cell 0; have e1_ := H3.blk.cell 1
                    simp only [List.getElem?_toArray, List.getElem?_cons_zero, List.getElem?_cons_succ] at e0_ e1_
                    obtain ⟨ke, hke⟩ : ∃ ke, (kd == 1) = ke := ⟨_, rfl⟩
                    go_wp2_with fail
                    go_roundw
                    case rel =>
                      refine ⟨l1, to_, ke, ps2, by omega, rfl, rfl, rfl, by go_num, (show Aside _ from fun h => ?_), (show Aside _ from ?_), H3.tail⟩
                      · have := hkl (by rw [h] at hke; simpa using hke); omega
                      · show bb = _; rw [hbb.out, ← hps2.out, ← hke, show decide (kd = 1) = (kd == 1) from rfl]; cases ps <;> cases fe <;> cases xe <;> simp
                    case measure => simp [intOf]
              · have e0 : lv = 0 := by omega
                subst e0
                have hz1 : ¬ (((0 : Nat)) : Int) ≥ 1 := by omega
                have ebb : bb = ps := by rw [hA2.out]; simp [passL]
                replace ebb := Lib.hid ebb
                go_wp2_with fail
                go_ret
                exact ⟨by rw [ebb.out]; cases ps <;> rfl, H.1⟩

theorem GuardReach_walk (A : Option Addr) (n c : Nat) (P : List Pu) (B : Option Addr) (m e0 : Nat) (L : List Gst) (root : Int) (at_ ii pg : Int) (w : World) (hP : SlP w A n P) (hl : GopsIn w B m L) (hat : 0 ≤ at_ ∧ at_ ≤ 255) (hii : 0 ≤ ii ∧ ii ≤ 255) (hpg : 0 ≤ pg ∧ pg ≤ 65535) :
    Calls Try.prog 6 #[.slice A n c, .slice B m e0, .int .i64 root, .int .u8 at_, .int .u8 ii, .int .u16 pg] w fun e w' => e = .returned (.bool true) ∧ Chg [] w w' := by
  obtain ⟨k, rfl⟩ := Int.eq_ofNat_of_zero_le hat.1
  obtain ⟨k2, rfl⟩ := Int.eq_ofNat_of_zero_le hii.1
  obtain ⟨k3, rfl⟩ := Int.eq_ofNat_of_zero_le hpg.1
  exact lawGuardReach_any A n c P B m e0 L root k k2 k3 w hP hl (by omega) (by omega) (by omega)

end Go.Proofs.Ytgjfidjhbkaobaa
