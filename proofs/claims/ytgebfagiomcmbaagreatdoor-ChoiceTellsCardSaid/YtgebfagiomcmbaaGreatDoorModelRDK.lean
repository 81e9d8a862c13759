/-
  The contract of the document's Access, from its parts.
-/
import Derived.Test.YtgebfagiomcmbaaGreatDoorModelRCK
namespace Go.Proofs.YtgebfagiomcmbaaGreatDoor
open Go.RowKit Go.Shelf Go.Maps

section
variable {w0 w : World} {F : List Nat} {m t q p h b n : Nat} {S : List Nat} {L : List Int} {s : Ms}

theorem RMAcc_b (k : Int) (u : Bool) (a : Nat) (v : Int) (ha : a < 18446744073709551616) (hv : 0 ≤ v ∧ v < 18446744073709551616) (H : RModB w0 F w m t q S p L h b n s) :
    Calls Tryz.prog 15 #[.pointer (some ⟨m, 0, none⟩), .int .i64 k, .bool u, .int .u64 a, .int .u64 v] w fun e w' =>
      e = .returned (.agg (accM n L s k u a v).2.cs) ∧ RModB w0 F w' m t q S p L h b n (accM n L s k u a v).1 ∧ Far F w w' := by
  cases h1 : aliB a with
  | false =>
    have e : accM n L s k u a v = (s, ⟨4, 0, 0, a⟩) := by unfold accM; rw [h1, if_neg (by decide)]
    rw [e]; exact racc_ali k u a v ha hv H h1
  | true =>
    cases h2 : canB a with
    | false =>
      have e : accM n L s k u a v = (s, ⟨2, 0, 0, a⟩) := by unfold accM; rw [h1, if_pos rfl, h2, if_neg (by decide)]
      rw [e]; exact racc_can k u a v ha hv H h1 h2
    | true =>
      have e : accM n L s k u a v = goOn n L (takeM n L s (pageN a) k u) (wordN a) k a v := by unfold accM; rw [h1, if_pos rfl, h2, if_pos rfl]
      cases hh : hasT s.T 0 (pageN a : Int) && servesB (getT s.T 0 (pageN a : Int)) k u with
      | true =>
        have hh' := hh
        rw [Bool.and_eq_true] at hh'
        have et : takeM n L s (pageN a) k u = (s, getT s.T 0 (pageN a : Int), 0, 0) := by unfold takeM; rw [hh, if_pos rfl]
        rw [e, et]
        by_cases hk : k = 1
        · have e3 : goOn n L (s, getT s.T 0 (pageN a : Int), 0, 0) (wordN a) k a v = (⟨setG n s.W L (getT s.T 0 (pageN a)).f (wordN a) v, s.r, s.T⟩, Ot.zero) := by
            unfold goOn touchM; rw [if_pos rfl, hk]; rfl
          rw [e3]; exact racc_serve_st k u a v ha hv H h1 h2 hh'.1 hh'.2 hk
        · have e3 : goOn n L (s, getT s.T 0 (pageN a : Int), 0, 0) (wordN a) k a v = (s, ⟨0, getG n s.W L (getT s.T 0 (pageN a)).f (wordN a), 0, 0⟩) := by
            unfold goOn touchM; rw [if_pos rfl, if_neg (by simpa using hk)]
          rw [e3]; exact racc_serve_ld k u a v ha hv H h1 h2 hh'.1 hh'.2 hk
      | false =>
        have et : takeM n L s (pageN a) k u = freshM n L ⟨s.W, s.r, dropT s.T 0 (pageN a)⟩ (pageN a) k u := by unfold takeM; rw [hh, if_neg (by decide)]
        rw [e, et]
        unfold freshM
        simp only
        cases hr : walkP n s.W L s.r (pageN a) k u with
        | mk P hc =>
          obtain ⟨how, code⟩ := hc
          simp only
          by_cases h0 : how = 0
          · subst h0
            obtain ⟨rfl, _, _, _⟩ := done_of hr
            rw [if_pos rfl]
            by_cases hk : k = 1
            · have e3 : goOn n L (⟨markP n L P.ats (k == 1) s.W, s.r, putT 512 (dropT s.T 0 (pageN a)) (hitP (pageN a) P (k == 1))⟩, hitP (pageN a) P (k == 1), 0, 0) (wordN a) k a v = (⟨setG n (markP n L P.ats (k == 1) s.W) L P.g (wordN a) v, s.r, putT 512 (dropT s.T 0 (pageN a : Int)) (hitP (pageN a : Int) P (k == 1))⟩, Ot.zero) := by
                unfold goOn touchM; rw [if_pos rfl, if_pos (by simpa using hk)]; rfl
              rw [e3]
              cases hd : P.dirty with
              | true => exact racc_go_st_true k u a v ha hv H P h1 h2 hh hr hd hk
              | false => exact racc_go_st_false k u a v ha hv H P h1 h2 hh hr hd hk
            · have e3 : goOn n L (⟨markP n L P.ats (k == 1) s.W, s.r, putT 512 (dropT s.T 0 (pageN a)) (hitP (pageN a) P (k == 1))⟩, hitP (pageN a) P (k == 1), 0, 0) (wordN a) k a v = (⟨markP n L P.ats (k == 1) s.W, s.r, putT 512 (dropT s.T 0 (pageN a : Int)) (hitP (pageN a : Int) P (k == 1))⟩, ⟨0, getG n (markP n L P.ats (k == 1) s.W) L P.g (wordN a), 0, 0⟩) := by
                unfold goOn touchM; rw [if_pos rfl, if_neg (by simpa using hk)]; rfl
              rw [e3]
              cases hd : P.dirty with
              | true => exact racc_go_ld_true k u a v ha hv H P h1 h2 hh hr hd hk
              | false => exact racc_go_ld_false k u a v ha hv H P h1 h2 hh hr hd hk
          · rw [if_neg h0]
            obtain ⟨rfl, _⟩ := walk_zero hr h0
            have e3 : goOn n L (⟨s.W, s.r, dropT s.T 0 (pageN a)⟩, Ht.zero, how, code) (wordN a) k a v = (⟨s.W, s.r, dropT s.T 0 (pageN a)⟩, ⟨how, 0, code, a⟩) := by
              unfold goOn; rw [if_neg h0]
            rw [e3]
            exact racc_stop k u a v ha hv H how code h1 h2 hh hr (by simpa using h0)

end

end Go.Proofs.YtgebfagiomcmbaaGreatDoor
