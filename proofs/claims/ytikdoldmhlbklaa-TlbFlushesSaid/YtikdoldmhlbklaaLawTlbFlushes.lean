/-
  TlbFlushes: the walk.
-/
import Derived.Test.YtikdoldmhlbklaaTlbM
namespace Go.Proofs.Ytikdoldmhlbklaa
open Go.RowKit Go.Shelf

set_option maxRecDepth 100000 in
set_option maxHeartbeats 8000000 in
theorem TlbFlushes_walk (A : Option Addr) (len c : Nat) (l : List Ht) (asid : Int) (w0 : World) (hl : SlH w0 A len l) :
    Calls Try.prog 7 #[.slice A len c, .int .i64 asid] w0 fun e w' => e = .returned (.bool true) ∧ Chg [] w0 w' := by
  have hle := hl.le
  by_cases hbig : 300 < len
  · go_enter Try.func7, Try.ntmps7
    go_wp2_with fail
    refine (Thead_any _).mono ?_; rintro e w1 ⟨rfl, hc1⟩
    go_wp2_with fail
    refine (TNew_b w0 512 _ (by decide) (by decide) hc1).mono ?_; rintro e w2 ⟨rfl, h2, _⟩
    go_wp2_with fail
    go_ret
    exact ⟨rfl, h2.chg0⟩
  · go_enter Try.func7, Try.ntmps7
    go_wp2_with fail
    refine (Thead_any _).mono ?_; rintro e w1 ⟨rfl, hc1⟩
    go_wp2_with fail
    refine (TNew_b w0 512 _ (by decide) (by decide) hc1).mono ?_; rintro e w2 ⟨rfl, h2, _⟩
    generalize w1.heap.size = p at *
    clear hc1
    go_wp2_with fail
    have HLEN := Lib.hid hl.len
    go_loopg [7] len (fun gg s7 wr => ∃ k : Nat, k ≤ len ∧ len - k ≤ gg ∧ s7 = .int .i64 k ∧ Aside (TB w0 [] wr p 512 (putsT 512 l k)))
    case atStart => exact ⟨0, by omega, by omega, rfl, by rw [putsT_zero]; exact h2⟩
    case round =>
      obtain ⟨k, hk, hg, rfl, HT⟩ := hrel
      clear h2
      by_cases hlt : k < len
      · have hltz : (k : Int) < (len : Int) := by omega
        obtain ⟨b, off, rfl, hb, hc⟩ := (hl.new HT.out.chg0).get hlt
        obtain ⟨c0, c1, c2, c3, c4, c5, c6⟩ := hc
        have hP := TPut_b (l.getD k default) HT.out
        unfold Ht.v at hP
        rw [← putsT_succ 512 l (by rw [HLEN.out]; exact hlt)] at hP
        generalize l.getD k default = y at *
        go_wp2_with fail
        refine hP.mono ?_; rintro e w3 ⟨rfl, h3, _⟩
        go_wp2_with fail
        go_roundg (len - (k + 1))
        case measure => omega
        case rel => exact ⟨k + 1, by omega, by omega, by go_num, h3⟩
      · have hltz : ¬ (k : Int) < (len : Int) := by omega
        clear hl hk hlt
        have hT := HT.out
        clear HT HLEN hg
        generalize putsT 512 l k = N at *
        go_wp2_with fail
        refine (TList_b hT).mono ?_; rintro e w3 ⟨A3, c3, G, rfl, h3, hc3, ho3, hG3, _⟩
        rw [List.append_nil] at h3
        have hs3 := ho3.slh
        have hle3 := hs3.le
        clear hT hc3 ho3
        go_wp2_with fail
        go_loopg [8, 10] N.length (fun gg v8 s10 wr => ∃ (k : Nat) (F : List Nat), k ≤ N.length ∧ N.length - k ≤ gg ∧ s10 = .int .i64 k ∧ Aside (TB w0 F wr p 512 N) ∧ Aside (LB w0 F wr v8 ((N.take k).filter (fun h => !(h.a == asid)))) ∧ Aside (SlH wr A3 N.length N) ∧ Aside (∀ b off, A3 = some ⟨b, off, none⟩ → b ∈ F ∧ b ∉ v8.ownBlock.toList))
        case atStart => exact ⟨0, G, by omega, by omega, rfl, h3, LB.nil _ _ _, hs3, fun b off e => ⟨by have := hG3 b off e; simpa using this, by simp [Value.ownBlock]⟩⟩
        case round =>
          obtain ⟨j, F, hj, hgj, rfl, HT, HL, HS, HA⟩ := hrel
          clear h3 hs3 hG3
          by_cases hlt : j < N.length
          · have hltz : (j : Int) < (N.length : Int) := by omega
            obtain ⟨b0, off0, rfl, hb, hc⟩ := HS.out.get hlt
            obtain ⟨c0, c1, c2, c3', c4, c5, c6⟩ := hc
            have HJ := Lib.hid (getD_lt hlt)
            have HTK := Lib.hid (List.take_succ_eq_append_getElem hlt)
            generalize N.getD j default = y at *
            by_cases hy : y.a = asid
            · have e1 : (y.a != asid) = false := by simp [hy]
              have HE : Hid ((y.a == asid) = true) := by show (y.a == asid) = true; simp [hy]
              clear hy
              go_wp2_with fail
              go_roundg (N.length - (j + 1))
              case measure => omega
              case rel =>
                refine ⟨j + 1, F, by omega, by omega, by go_num, HT, ?_, HS, HA⟩
                show LB w0 F wr _ _
                have e2 : (N.take (j + 1)).filter (fun h => !(h.a == asid)) = (N.take j).filter (fun h => !(h.a == asid)) := by
                  rw [HTK.out, List.filter_append, ← HJ.out]; simp [HE.out]
                rw [e2]; exact HL.out
            · have e1 : (y.a != asid) = true := by simp [hy]
              have HE : Hid ((y.a == asid) = false) := by show (y.a == asid) = false; simp [hy]
              clear hy
              have e2 : (N.take (j + 1)).filter (fun h => !(h.a == asid)) = (N.take j).filter (fun h => !(h.a == asid)) ++ [y] := by
                rw [HTK.out, List.filter_append, ← HJ.out]; simp [HE.out]
              have hfl : ((N.take j).filter (fun h => !(h.a == asid))).length ≤ 512 := Nat.le_trans (List.length_filter_le _ _) (by have := HT.out.le; simp; omega)
              have hnb := BlkH.new wr y
              have hL4 := HL.out.alloc (.cells #[.int .i64 y.a, .int .i64 y.p, .int .i64 y.f, .bool y.w, .bool y.u, .bool y.x, .bool y.d] 31)
              have hT4 := HT.out.alloc (.cells #[.int .i64 y.a, .int .i64 y.p, .int .i64 y.f, .bool y.w, .bool y.u, .bool y.x, .bool y.d] 31)
              have hS4 := HS.out.new ((Chg.refl [] wr).alloc (.cells #[.int .i64 y.a, .int .i64 y.p, .int .i64 y.f, .bool y.w, .bool y.u, .bool y.x, .bool y.d] 31))
              have HE2 := Lib.hid e2
              clear e2 HL HT HS
              obtain ⟨A4, c4v, rfl, _, _⟩ := hL4.1.form
              have hsrc := hnb.src
              have HLL := Lib.hid hL4
              clear hL4
              generalize hM : (N.take j).filter (fun h => !(h.a == asid)) = M at *
              clear hM
              go_wp2_with (at_builtin; refine wpList_append_own_H rfl _ _ rfl _ M rfl HLL.out.1 (some ⟨wr.heap.size, 0, none⟩) 1 1 [y] rfl hsrc rfl (by omega) ?_)
              intro v5 w5 ho5 hc5 hb5
              obtain ⟨k1, k2⟩ := hT4.app HLL.out ho5 hc5 (by rw [World.size_alloc]; exact hb5)
              have hS5 := hS4.chg hc5 (fun b off e hm => (HA.out b off e).2 hm)
              have hA5 : ∀ b off, some (⟨b0, off0, none⟩ : Addr) = some ⟨b, off, none⟩ → b ∈ v5.ownBlock.toList ++ F ∧ b ∉ v5.ownBlock.toList := fun b off e => by
                obtain ⟨m1, m2⟩ := HA.out b off e
                refine ⟨List.mem_append.2 (.inr m1), fun hm => ?_⟩
                rcases hb5 with e5 | e5
                · rw [e5] at hm; exact m2 hm
                · rw [e5] at hm; simp at hm; have := hT4.2.1 b m1; rw [World.size_alloc] at this; omega
              obtain ⟨A5, c5v, rfl, _, _⟩ := ho5.form
              clear hT4 hS4
              go_wp2_with fail
              go_roundg (N.length - (j + 1))
              case measure => omega
              case rel =>
                refine ⟨j + 1, _, by omega, by omega, by go_num, k1, ?_, hS5, hA5⟩
                show LB w0 _ w5 _ _
                rw [HE2.out]; exact k2
          · have hltz : ¬ (j : Int) < (N.length : Int) := by omega
            have hjn : j = N.length := by omega
            have HJ := Lib.hid hjn
            have hW := HL.out
            obtain ⟨A4, c4v, rfl, _, _⟩ := hW.1.form
            have hT := HT.out
            have e1 : (N.take j).filter (fun h => !(h.a == asid)) = flushT N asid := by rw [HJ.out, List.take_length]; rfl
            generalize (N.take j).filter (fun h => !(h.a == asid)) = X at *
            have HX := Lib.hid e1
            have HWW := Lib.hid hW
            clear hW hlt hj hjn e1 HL HT HS HA
            go_wp2_with fail
            refine (TFlush_b asid hT).mono ?_; rintro e w4 ⟨rfl, h4, hf4⟩
            have hW4 := (HWW.out.far hf4).1.slh
            clear hT hf4
            go_wp2_with fail
            refine (TList_b h4).mono ?_; rintro e w5 ⟨A5, c5v, G5, rfl, h5, hc5, ho5, _, _⟩
            have hW5 := hW4.new hc5
            have hs5 := ho5.slh
            clear h4 hW4 hc5 ho5
            have hS := TSame_at A5 A4 _ _ c5v c4v _ _ _ hs5 hW5
            rw [show eqHs (flushT N asid) X = true by rw [HX.out]; exact eqHs_self _] at hS
            go_wp2_with fail
            refine hS.mono ?_; rintro e w6 ⟨rfl, hc6⟩
            have h6 := h5.new hc6
            clear hS h5 hc6 hs5 hW5
            go_wp2_with fail
            refine (TAll_b h6).mono ?_; rintro e w7 ⟨rfl, h7, _⟩
            clear h6
            go_wp2_with fail
            refine (TMany_b h7).mono ?_; rintro e w8 ⟨rfl, h8, _⟩
            clear h7
            go_wp2_with fail
            refine (TList_b h8).mono ?_; rintro e w9 ⟨A9, c9, G9, rfl, h9, _⟩
            clear h8
            go_wp2_with fail
            go_ret
            exact ⟨rfl, h9.chg0⟩

end Go.Proofs.Ytikdoldmhlbklaa
