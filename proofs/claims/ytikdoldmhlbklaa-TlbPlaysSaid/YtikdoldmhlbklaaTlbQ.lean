/-
  The contracts of the document's list of hits: Get, Pick.
-/
import Derived.Test.YtikdoldmhlbklaaTlbP
import Derived.Test.YtikdoldmhlbklaaLawTlbWithin
namespace Go.Proofs.Ytikdoldmhlbklaa
open Go.RowKit Go.Shelf

theorem get_first {L : List Ht} {a p : Int} {j : Nat} (hj : j < L.length) (h1 : (L.getD j default).isK a p = true) (h0 : ∀ i, i < j → (L.getD i default).isK a p = false) : getT L a p = L.getD j default ∧ hasT L a p = true := by
  refine ⟨?_, ?_⟩
  · unfold getT
    rw [find_at (q := fun h => h.isK a p) hj h1 h0]; rfl
  · unfold hasT
    rw [List.any_eq_true]
    exact ⟨_, List.getElem_mem hj, by rw [← getD_lt hj]; exact h1⟩
theorem get_no {L : List Ht} {a p : Int} (h0 : ∀ i, i < L.length → (L.getD i default).isK a p = false) : getT L a p = Ht.zero ∧ hasT L a p = false := by
  have e : hasT L a p = false := by
    unfold hasT
    rw [List.any_eq_false]
    intro x hx
    obtain ⟨j, hj, rfl⟩ := List.getElem_of_mem hx
    have := h0 j hj
    rw [getD_lt hj] at this
    simp [this]
  exact ⟨getT_none e, e⟩

set_option maxRecDepth 100000 in
set_option maxHeartbeats 4000000 in
theorem RTGet_at (S : List Nat) (p most : Nat) (L : List Ht) (a pg : Int) (w : World) (h : RTAt w S p most L) :
    Calls Try.prog 24 #[.pointer (some ⟨p, 0, none⟩), .int .i64 a, .int .i64 pg] w fun e w' => e = .returned (.tuple #[(getT L a pg).v, .bool (hasT L a pg)]) ∧ Chg [] w w' := by
  obtain ⟨v, h, rfl⟩ := h
  have hc0 : Chg [] w (w.alloc (.cells #[.int .i64 0, .int .i64 0, .int .i64 0, .bool false, .bool false, .bool false, .bool false] 31)) := (Chg.refl [] w).alloc _
  have hR0 : BlkH (w.alloc (.cells #[.int .i64 0, .int .i64 0, .int .i64 0, .bool false, .bool false, .bool false, .bool false] 31)) w.heap.size Ht.zero := BlkH.new w Ht.zero
  have h0 := h.chg hc0 (by simp) (by simp)
  obtain ⟨c0, c1⟩ := h0.c
  obtain ⟨r0, r1, r2, r3, r4, r5, r6⟩ := hR0.cells
  obtain ⟨f0, f1, f2, f3, f4, f5, f6⟩ := hR0.frozens
  simp only [Ht.zero] at r0 r1 r2 r3 r4 r5 r6
  have hle := h.le; have hhi := h.hi
  have how := h0.ow
  obtain ⟨A, c, rfl, _, _⟩ := h0.ow.form
  have hs := how.slh
  clear h h0 how
  have hcz : ∀ x : Ht, Chg [] w ((w.alloc (.cells #[.int .i64 0, .int .i64 0, .int .i64 0, .bool false, .bool false, .bool false, .bool false] 31)).setCells w.heap.size 0 x.cl) := fun x => Chg.setCells (fun h => absurd h (by omega)) _ _ _ hc0
  go_enter Try.func24, Try.ntmps24
  go_wp2_with fail
  generalize w.alloc (.cells #[.int .i64 0, .int .i64 0, .int .i64 0, .bool false, .bool false, .bool false, .bool false] 31) = w1 at *
  go_loopg [8] L.length (fun gg s8 wr => ∃ j : Nat, j ≤ L.length ∧ L.length - j ≤ gg ∧ s8 = .int .i64 j ∧ Aside (wr = w1) ∧ Aside (∀ i, i < j → (L.getD i default).isK a pg = false))
  case atStart => exact ⟨0, by omega, by omega, rfl, rfl, fun i hi => absurd hi (Nat.not_lt_zero _)⟩
  case round =>
    obtain ⟨j, hj, hg, rfl, HW, HN⟩ := hrel
    have hw := HW.out
    subst hw
    clear HW
    by_cases hlt : j < L.length
    · have hltz : (j : Int) < (L.length : Int) := by omega
      obtain ⟨b, off, rfl, hb, hc⟩ := hs.get hlt
      obtain ⟨d0, d1, d2, d3, d4, d5, d6⟩ := hc
      have HF := Lib.hid (fun h => get_first (a := a) (p := pg) hlt h HN.out)
      have HI := Lib.hid (isK_iff (L.getD j default) a pg)
      have HS := Lib.hid (show ∀ r, (L.getD j default).isK a pg = r → r = false → ∀ i, i < j + 1 → (L.getD i default).isK a pg = false from fun r h1 h2 i hi => by
        rcases Nat.lt_or_ge i j with h | h
        · exact HN.out i h
        · obtain rfl : i = j := by omega
          rw [h1, h2])
      generalize L.getD j default = y at *
      have hset := hR0.set y
      by_cases h1 : y.a = a
      · have g1 : (y.a == a) = true := by simp [h1]
        by_cases h2 : y.p = pg
        · have g2 : (y.p == pg) = true := by simp [h2]
          have HH := Lib.hid (HF.out (HI.out.2 ⟨h1, h2⟩))
          clear h1 h2 HF HI HS
          go_wp2_with fail
          refine bodyPost_ret (cellT_ret rfl hset rfl Try.underlying31 rfl (by kernel_rfl)) rfl ?_
          rw [HH.out.1, HH.out.2]
          exact ⟨rfl, hcz y⟩
        · have g2 : (y.p == pg) = false := by simp [h2]
          have HH := Lib.hid (show y.isK a pg = false by rw [Bool.eq_false_iff, Ne, HI.out]; exact fun e => h2 e.2)
          clear h1 h2 HF HI hset
          go_wp2_with fail
          go_roundg (L.length - (j + 1))
          case measure => omega
          case rel => exact ⟨j + 1, by omega, by omega, by go_num, rfl, HS.out _ rfl HH.out⟩
      · have g1 : (y.a == a) = false := by simp [h1]
        have HH := Lib.hid (show y.isK a pg = false by rw [Bool.eq_false_iff, Ne, HI.out]; exact fun e => h1 e.1)
        clear h1 HF HI hset
        go_wp2_with fail
        go_roundg (L.length - (j + 1))
        case measure => omega
        case rel => exact ⟨j + 1, by omega, by omega, by go_num, rfl, HS.out _ rfl HH.out⟩
    · have hltz : ¬ (j : Int) < (L.length : Int) := by omega
      have HH := Lib.hid (get_no (L := L) (a := a) (p := pg) (fun i hi => HN.out i (by omega)))
      have hset := hR0.set Ht.zero
      clear hlt
      go_wp2_with fail
      refine bodyPost_ret (cellT_ret rfl hset rfl Try.underlying31 rfl (by kernel_rfl)) rfl ?_
      rw [HH.out.1, HH.out.2]
      exact ⟨rfl, hcz Ht.zero⟩

theorem pick_eq (L : List Ht) (k : Nat) : L.take k ++ L.drop (k + 1) = L.eraseIdx k := (List.eraseIdx_eq_take_drop_succ L k).symm
theorem made0 {w : World} {g : Nat} (h : Blk w g 31 #[]) : OwnH w (.slice (some ⟨g, 0, none⟩) 0 0) [] := by
  have hr : RowH w g [] [] := h
  exact hr.own_all 0 (by simp) (by decide)

set_option maxRecDepth 100000 in
set_option maxHeartbeats 4000000 in
theorem RTPick_at (S : List Nat) (p most : Nat) (L : List Ht) (n : Int) (w : World) (h : RTAt w S p most L) (_hn : -9223372036854775808 ≤ n ∧ n ≤ 9223372036854775807) :
    Calls Try.prog 20 #[.pointer (some ⟨p, 0, none⟩), .int .i64 n] w fun e w' => e = .returned (.bool (!L.isEmpty)) ∧ Chg S w w' ∧ ∃ S', RTAt w' S' p most (pickT L n) ∧ Grew w S S' := by
  obtain ⟨v, h, rfl⟩ := h
  obtain ⟨c0, c1⟩ := h.c
  by_cases h0 : L.length = 0
  · obtain rfl : L = [] := List.eq_nil_of_length_eq_zero h0
    obtain ⟨A, c, rfl, _, _⟩ := h.ow.form
    clear h0
    go_enter Try.func20, Try.ntmps20
    go_wp2_with fail
    go_ret
    exact ⟨rfl, Chg.refl _ _, _, ⟨_, by simpa [pickT] using h, rfl⟩, Grew.refl _ _⟩
  · obtain ⟨k1, k2, k3, k4⟩ := pickI_spec L.length n (by omega)
    have hle := h.le; have hhi := h.hi; have hlo := h.lo
    have e : (!L.isEmpty) = true := by simp; intro e; subst e; simp at h0
    rw [e]
    unfold pickT
    obtain ⟨g, c, rfl⟩ := h.ow.pos_ (by omega)
    obtain ⟨tl, hrow, _, hcap, hmax, htl⟩ := h.ow.row
    have hst := h.st
    have hne := h.ne
    have hgp : p ≠ g := fun e => hne g (by simp [Value.ownBlock]) e.symm
    have hLT : L.length < 1000 := by omega
    clear h e
    generalize pickI L.length n = k at *
    have h1 : ((L.length : Int) == 0) = false := by rw [beq_eq_false_iff_ne]; omega
    have hw : IntKind.i64.wrap (Int.tmod n L.length + L.length) = Int.tmod n L.length + L.length := by rw [IntKind.wrap_i64]; omega
    have h3 : ¬ ((L.length : Int) = 0) := by omega
    have hkc : k ≤ c := by omega
    have hkc1 : k + 1 ≤ c := by omega
    have hp0 : (0 : Int) ≤ (k : Int) + 1 := by omega
    have hp1 : (k : Int) + 1 ≤ (L.length : Int) := by omega
    have hp2 : ((k : Int) + 1).toNat = k + 1 := by omega
    have hz : p < w.heap.size := hst.lt
    have hgz : g < w.heap.size := hrow.lt
    -- the worlds that may come up, and what lies in them
    have hc1 : Chg [] w (w.drew.alloc (.cells #[] 31)) := (Chg.refl [] w).drew.alloc _
    have hmade : OwnH (w.drew.alloc (.cells #[] 31)) (.slice (some ⟨w.heap.size, 0, none⟩) 0 0) [] := made0 (Blk.new w.drew _ #[])
    have hrow1 := hrow.chg hc1 (by simp)
    have hst1 := hc1.blk hst (by simp)
    have d1 := hst1.cell 1
    simp only [List.getElem?_toArray, List.getElem?_cons_succ, List.getElem?_cons_zero] at d1
    have hs1 : Src (w.drew.alloc (.cells #[] 31)) 7 (some ⟨g, 0, none⟩) k c (encH (L.take k)) := (hrow1.own k c (by omega) htl hmax).src
    obtain ⟨A2, hA2, hs2⟩ : ∃ A2 : Addr, (if c = k + 1 then some (⟨g, 0, none⟩ : Addr) else some ⟨g, (k + 1) * 7, none⟩) = some A2 ∧ Hid (∀ W, SlH W (some ⟨g, 0, none⟩) L.length L → SlH W (some A2) (L.length - (k + 1)) (L.drop (k + 1))) := by
      by_cases e : c = k + 1
      · exact ⟨⟨g, 0, none⟩, by simp [e], fun W hW => hW.drop (by omega) (.inl (by omega))⟩
      · exact ⟨⟨g, (k + 1) * 7, none⟩, by simp [e], fun W hW => hW.drop (by omega) (.inr (by simp))⟩
    have HHT := Lib.hid htl
    have HR1 := Lib.hid hrow1; have HST1 := Lib.hid hst1; have HM := Lib.hid hmade
    clear htl hrow1 hst1 hmade hrow hne
    go_enter Try.func20, Try.ntmps20
    go_wp2_with fail
    have hgs : some g = (Value.slice (some ⟨g, 0, none⟩) L.length c).ownBlock := rfl
    have HSS := Lib.hid (show ∀ W, OwnH W (.slice (some ⟨g, 0, none⟩) L.length c) L → Src W 7 (some A2) (L.length - (k + 1)) (c - (k + 1)) (encH (L.drop (k + 1))) from fun W hW => (hs2.out W hW.slh).src (by simp))
    have HOW1 := Lib.hid (HR1.out.own_all c HHT.out hmax)
    have hlen2 : (L.drop (k + 1)).length = L.length - (k + 1) := by simp
    have HL2 := Lib.hid hlen2
    clear hlen2
    have hk1n : k + 1 ≤ L.length := by omega
    have hwr : IntKind.i64.wrap ((k : Int) + 1) = (k : Int) + 1 := by rw [IntKind.wrap_i64]; omega
    have HK1 := Lib.hid (show (L.take k).length = k by simp; omega)
    have HK2 := Lib.hid (show ([] : List Ht).length + k ≤ 1000000 by simp; omega)
    have HK3 := Lib.hid (show ([] ++ L.take k).length + (L.length - (k + 1)) ≤ 1000000 by simp; omega)
    generalize hl : L.length = m at *
    have HLM := Lib.hid hl
    clear hl
    go_region_law ((first
        | (refine step_append_H (some 29) rfl rfl (.tmp 22) (.tmp 28) rfl (.slice (some ⟨w.heap.size, 0, none⟩) 0 0) [] (by first | (simp [Act.eval]; done) | simp [Act.eval, Act.put]) HM.out (some ⟨g, 0, none⟩) k c (L.take k) (by first | (simp [Act.eval]; done) | simp [Act.eval, Act.put]) hs1 HK1.out HK2.out ?_
           intro v5 w5 ho5 hc5 hb5
           have hst5 := hc5.blk HST1.out (by simp [Value.ownBlock]; omega)
           have e5 := hst5.cell 1
           simp only [List.getElem?_toArray, List.getElem?_cons_succ, List.getElem?_cons_zero] at e5
           have hs5 := HSS.out w5 (HOW1.out.chg hc5 (by simp [Value.ownBlock]; omega))
           have HST5 := Lib.hid hst5
           clear hst5)
        | (refine step_append_H (some 37) rfl rfl (.tmp 29) (.tmp 36) rfl v5 ([] ++ L.take k) (by first | (simp [Act.eval]; done) | simp [Act.eval, Act.put]) ho5 (some A2) (m - (k + 1)) (c - (k + 1)) (L.drop (k + 1)) (by first | (simp [Act.eval]; done) | simp [Act.eval, Act.put]) hs5 HL2.out HK3.out ?_
           intro v6 w6 ho6 hc6 hb6
           have hpn : p ∉ v5.ownBlock.toList := fun hm => by
             rcases hb5 with e | e
             · rw [e] at hm; simp [Value.ownBlock] at hm; omega
             · rw [e] at hm; simp at hm; omega
           have hst6 := hc6.blk HST5.out hpn
           have f6 := hst6.frozen 1
           have e6 := hst6.cell 1
           simp only [List.getElem?_toArray, List.getElem?_cons_succ, List.getElem?_cons_zero] at e6
           obtain ⟨A6, c6, rfl, _, _⟩ := ho6.form
           have HX6 := Lib.hid (show ([] ++ L.take k) ++ L.drop (k + 1) = L.eraseIdx k by rw [List.nil_append]; exact pick_eq L k)
           generalize ([] ++ L.take k) ++ L.drop (k + 1) = X at *
           have HST6 := Lib.hid hst6
           clear hst6)
        | (fail "HERE")))
    all_goals
      have hnew5 : ∀ i ∈ v5.ownBlock.toList, w.heap.size ≤ i := fun i hi => by
        rcases hb5 with e | e
        · rw [e] at hi; simp [Value.ownBlock] at hi; omega
        · rw [e] at hi; simp at hi; omega
      have hw5 := hc1.trans hc5 (by intro i hi hm; simp [Value.ownBlock] at hm; omega)
      have hw6 := hw5.trans hc6 (fun i hi hm => absurd (hnew5 i hm) (by omega))
      have hnew6 : ∀ i ∈ (Value.slice A6 X.length c6).ownBlock.toList, w.heap.size ≤ i := fun i hi => by
        rcases hb6 with e | e
        · rw [e] at hi; exact hnew5 i hi
        · rw [e] at hi; simp at hi; have := hw5.size; omega
      have hcl : Chg [p] w6 (w6.setCell ⟨p, 1, none⟩ (.slice A6 X.length c6)) := (Chg.refl _ _).setCell (by simp) _
      have hXl : X.length ≤ most := by rw [HX6.out, List.length_eraseIdx_of_lt (by rw [HLM.out]; omega), HLM.out]; omega
      have HXL := Lib.hid hXl
      have HC := Lib.hid ((hw6.weak (T := p :: (Value.slice (some ⟨g, 0, none⟩) m c).ownBlock.toList) (by simp)).trans hcl (by intro k _ hk; simp at hk; subst hk; simp))
      have HO := Lib.hid (ho6.chg hcl (by intro i hi hm; simp at hm; subst hm; have := hnew6 i hi; omega))
      have HN := Lib.hid hnew6
      clear hnew5 hw5 hw6 hnew6 hcl hXl hb5 hb6 hc5 hc6 ho5
      go_wp2_with fail
      go_ret
      refine ⟨rfl, HC.out, _, ⟨.slice A6 X.length c6, ⟨HST6.out.set_ 1 _, by rw [← HX6.out]; exact HO.out, by rw [← HX6.out]; exact HXL.out, hlo, hhi⟩, rfl⟩, fun i hi => ?_⟩
      simp only [List.mem_cons] at hi
      rcases hi with rfl | hi
      · exact .inl (by simp)
      · exact .inr (HN.out i hi)

end Go.Proofs.Ytikdoldmhlbklaa
