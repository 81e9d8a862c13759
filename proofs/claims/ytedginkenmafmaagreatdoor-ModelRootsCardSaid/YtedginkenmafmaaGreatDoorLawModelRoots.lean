/-
  ModelRoots: the walk.
-/
import Derived.Test.YtedginkenmafmaaGreatDoorModelHead
import Derived.Test.YtedginkenmafmaaGreatDoorModelQ
import Derived.Test.YtedginkenmafmaaGreatDoorG4r
namespace Go.Proofs.YtedginkenmafmaaGreatDoor
open Go.RowKit Go.Shelf Go.Maps

set_option maxRecDepth 100000 in
set_option maxHeartbeats 40000000 in
theorem ModelRoots_walk (A : Option Addr) (ml c : Nat) (l : List Pu) (B : Option Addr) (no d : Nat) (ops : List OpM) (root kind : Int) (user : Bool) (page : Int) (w : World) (h : SlP w A ml l) (ho : SlM w B no ops) (hk : 0 ≤ kind ∧ kind ≤ 255) (hp0 : 0 ≤ page ∧ page ≤ 65535) (hE : ErrIn w) :
    Calls Tryz.prog 9 #[.slice A ml c, .slice B no d, .int .i64 root, .int .u8 kind, .bool user, .int .u16 page] w fun e w' => e = .returned (.bool true) ∧ Chg [] w w' := by
  have hwd := (made_wd l h.wf).1
  have hle := h.le
  have hlo := ho.le
  have hpm : Int.tmod page 512 = page % 512 := Int.tmod_eq_emod_of_nonneg hp0.1
  have hkm : Int.tmod kind 3 = kind % 3 := Int.tmod_eq_emod_of_nonneg hk.1
  have hpr : 0 ≤ page % 512 ∧ page % 512 < 512 := by omega
  have hkr : 0 ≤ kind % 3 ∧ kind % 3 < 3 := by omega
  generalize page % 512 = pn at *
  generalize kind % 3 = kn at *
  have hw1 : wrap64 pn = pn := by unfold wrap64; omega
  have hw2 : wrap64 kn = kn := by unfold wrap64; omega
  have HPR := Lib.hid hpr
  clear hp0 hk hpr hkr
  go_enter Tryz.func9, Tryz.ntmps9
  go_wp2_with fail
  refine (Mohead_any _ hE).mono ?_; rintro e w1 ⟨rfl, k1⟩
  go_wp2_with fail
  refine (Made_at A ml c l _ (h.self k1)).mono ?_; rintro e w2 ⟨q, S, p, hh, b, rfl, k2, g2, hb⟩
  have k3 : Chg [] w w2 := k1.trans k2 (by simp)
  have hbw : w.heap.size ≤ b := Nat.le_trans k1.size hb
  generalize madeW l = W at *
  clear k1 k2 hb h
  by_cases hbigml : (ml : Int) > 600
  · go_wp2_with fail
    go_ret
    exact ⟨rfl, k3⟩
  · by_cases hbigno : (no : Int) > 200
    · go_wp2_with fail
      go_ret
      exact ⟨rfl, k3⟩
    · go_wp2_with fail
      refine (MNew_b (w0 := w) (w := w2) (q := q) (S := S) (p := p) (L := L16) (h := hh) (b := b) (n := 16) 1 hE k3 W g2 hwd hbw).mono ?_; rintro e w3 ⟨m, t, rfl, H, _⟩
      clear k3 g2
      generalize hs0 : (⟨W, 1, []⟩ : Ms) = s0 at *
      go_wp2_with fail
      go_loopw [16] (fun i w' => ∃ k : Nat, k ≤ no ∧ i = .int .i64 k ∧ ModB w [] w' m t q S p L16 hh b 16 (runM 16 L16 s0 (ops.take k))) (fun i _ => no - (intOf i).toNat)
      case atStart => exact ⟨0, by omega, rfl, by simpa [runM] using H⟩
      case round =>
        clear H
        obtain ⟨k, hk, rfl, H⟩ := hrel
        by_cases hlt : k < no
        · obtain ⟨ob, off, o, rfl, _, hok, how, hc⟩ := (ho.new H.c0).get hlt
          obtain ⟨c0, c1, c2, c3, c4, c5, c6, c7⟩ := hc
          have hsn := Lib.hid (runM_succ (n := 16) (L := L16) (s := s0) hok)
          have hD := DoM_b o how H
          clear hok how
          obtain ⟨what, kind', user', a', v', g', i', page'⟩ := o
          simp only [OpM.val, Ot.cs] at *
          go_wp2_with fail
          refine hD.mono ?_; rintro e w4 ⟨rfl, H4, f4⟩
          clear hD c0 c1 c2 c3 c4 c5 c6 c7
          go_wp2_with fail
          go_roundw
          case rel => exact ⟨k + 1, by omega, by go_num, by rw [hsn.out]; exact H4⟩
          case measure => simp [intOf]; omega
        · obtain rfl : k = no := by omega
          rw [show ops.take k = ops from by rw [← ho.len, List.take_length]] at H
          clear hlt hk
          generalize hs : runM 16 L16 s0 ops = s at *
          have hJ := fun w9 => RJoin_any pn 0 w9
          have hjl := mq_lt pn 0
          go_wp2_with fail
          refine (MWords_b H).mono ?_; rintro e x1 ⟨g1, c1, rfl, H1, y1, u1, _⟩
          rw [L16_len] at u1
          clear H
          go_wp2_with fail
          refine (MRoot_b root H1).mono ?_; rintro e x2 ⟨rfl, H2, f2⟩
          have u2 := f2.slu u1 (fun g o e => by injection e with e; injection e with e; simp [e])
          clear H1 u1 y1 f2
          have hTl : (rootM s root).T.length = 0 := rfl
          have hWl : (rootM s root).W = s.W := rfl
          have hAl := MAll_b H2
          rw [hTl] at hAl
          go_wp2_with fail
          refine hAl.mono ?_; rintro e x3 ⟨A3, c3, rfl, y3, _, _⟩
          have H3 := H2.new y3
          have u3 := u2.chg y3 (by simp)
          clear hAl H2 u2 y3
          go_wp2_with fail
          refine (MWords_b H3).mono ?_; rintro e x4 ⟨g4, c4, rfl, H4, y4, u4, _⟩
          rw [L16_len, hWl] at u4
          have u3 := u3.chg y4 (by simp)
          go_wp2_with fail
          refine (SameWords_any _ _ 128 128 c4 c1 _ _ _ u4 u3 (by omega) (by omega)).mono ?_; rintro e x5 ⟨rfl, nd, rfl⟩
          rw [eqL_self]
          have H5 := H4.new ((Chg.refl [] x4).drewN nd)
          clear H3 H4 u3 u4 y4
          go_wp2_with fail
          refine (hJ _).mono ?_; rintro e x6 ⟨rfl, y6⟩
          have H6 := H5.new y6.chg
          clear H5 y6 hJ
          have hA := MAcc_b kn user (joinN pn 0) 1 hjl (by omega) H6
          have hN := fun hr => acc_noroot (s := rootM s root) (k := kn) (u := user) (v := 1) HPR.out.1 HPR.out.2 (i := 0) (by omega) (by omega) hr rfl
          clear H6 hjl
          generalize accM 16 L16 (rootM s root) kn user (joinN pn 0) 1 = tt at *
          obtain ⟨s7, ⟨oh, ov, oc, oa⟩⟩ := tt
          simp only [Ot.cs] at hA hN
          generalize joinN pn 0 = ja at *
          have hq : ∀ w0, (binOp .eql 37 (.agg #[.int .i64 3, .int .u64 0, .int .i64 0, .int .u64 ja]) (.agg #[.int .i64 3, .int .u64 0, .int .i64 0, .int .u64 ja])).run Tryz.prog w0 = .ok (.bool true) w0 := fun w0 => by rw [run_eqO, Ot.eqb_self]
          by_cases hi0 : root ≥ 0
          · by_cases hi1 : root < 16
            · clear hN hq
              go_wp2_with fail
              refine hA.mono ?_; rintro e x7 ⟨rfl, H7, _⟩
              have hc7 := H7.c0
              clear hA H7
              go_wp2_with fail
              go_ret
              exact ⟨rfl, hc7.alloc _⟩
            · have hN := hN (by show ¬ (0 ≤ root ∧ root < 16); omega)
              injection hN with n1 n2 n3 n4
              subst n1; subst n2; subst n3; subst n4
              go_wp2_with fail
              refine hA.mono ?_; rintro e x7 ⟨rfl, H7, _⟩
              have hc7 := H7.c0
              clear hA H7
              go_wp2_with fail
              go_ret
              exact ⟨rfl, hc7.alloc _⟩
          · have hN := hN (by show ¬ (0 ≤ root ∧ root < 16); omega)
            injection hN with n1 n2 n3 n4
            subst n1; subst n2; subst n3; subst n4
            go_wp2_with fail
            refine hA.mono ?_; rintro e x7 ⟨rfl, H7, _⟩
            have hc7 := H7.c0
            clear hA H7
            go_wp2_with fail
            go_ret
            exact ⟨rfl, hc7.alloc _⟩

end Go.Proofs.YtedginkenmafmaaGreatDoor
