/-
  TlbWithin: the walk.
-/
import Derived.Test.YtikdoldmhlbklaaTlbN
namespace Go.Proofs.Ytikdoldmhlbklaa
open Go.RowKit Go.Shelf

/-- the hits from place d on -/
theorem SlH.drop {w : World} {b off n d : Nat} {L : List Ht} {A' : Option Addr} (h : SlH w (some ⟨b, off, none⟩) n L) (hd : d ≤ n) (hA : n - d = 0 ∨ A' = some ⟨b, off + d * 7, none⟩) : SlH w A' (n - d) (L.drop d) :=
  ⟨by rw [List.length_drop, h.len], by have := h.le; omega, fun h0 => by
    rcases hA with e | rfl
    · omega
    · obtain ⟨b', off', e, hb, hr⟩ := h.at_ (by omega)
      injection e with e; injection e with e1 e2
      subst e1; subst e2
      exact ⟨b, off + d * 7, rfl, hb, fun j x hx => by
        rw [List.getElem?_drop] at hx
        have := hr (d + j) x hx
        rw [show off + d * 7 + j * 7 = off + (d + j) * 7 by omega]; exact this⟩⟩

set_option maxRecDepth 100000 in
set_option maxHeartbeats 8000000 in
theorem TlbWithin_walk (a_ more : Int) (A : Option Addr) (len c : Nat) (l : List Ht) (w0 : World) (ha : 0 ≤ a_ ∧ a_ ≤ 255) (hmo : 0 ≤ more ∧ more ≤ 255) (hl : SlH w0 A len l) :
    Calls Try.prog 9 #[.int .u8 a_, .int .u8 more, .slice A len c] w0 fun e w' => e = .returned (.bool true) ∧ Chg [] w0 w' := by
  have hle := hl.le
  obtain ⟨a, rfl⟩ := Int.eq_ofNat_of_zero_le ha.1
  obtain ⟨mo, rfl⟩ := Int.eq_ofNat_of_zero_le hmo.1
  have hq : (a : Int) % 60 = ((a % 60 : Nat) : Int) := by omega
  have hq60 : a % 60 < 60 := Nat.mod_lt _ (by decide)
  have hr : (mo : Int) % 60 = ((mo % 60 : Nat) : Int) := by omega
  have hr60 : mo % 60 < 60 := Nat.mod_lt _ (by decide)
  generalize a % 60 = q at *
  generalize mo % 60 = r at *
  obtain ⟨n, hn⟩ : ∃ n : Nat, 1 + (q : Int) = (n : Int) := ⟨q + 1, by omega⟩
  obtain ⟨m, hm⟩ : ∃ m : Nat, (n : Int) + (r : Int) = (m : Int) := ⟨n + r, by omega⟩
  have hn1 : 1 ≤ n ∧ n ≤ m ∧ m ≤ 200 := by omega
  by_cases hbig : 300 < len
  · go_enter Try.func9, Try.ntmps9
    go_wp2_with fail
    refine (Thead_any _).mono ?_; rintro e w1 ⟨rfl, hc1⟩
    go_wp2_with fail
    refine (TNew_b w0 n _ (by omega) (by omega) hc1).mono ?_; rintro e w2 ⟨rfl, h2, _⟩
    go_wp2_with fail
    refine (TNew_b w0 m _ (by omega) (by omega) h2.chg0).mono ?_; rintro e w3 ⟨rfl, h3, _⟩
    go_wp2_with fail
    go_ret
    exact ⟨rfl, h3.chg0⟩
  · go_enter Try.func9, Try.ntmps9
    go_wp2_with fail
    refine (Thead_any _).mono ?_; rintro e w1 ⟨rfl, hc1⟩
    go_wp2_with fail
    refine (TNew_in n _ (by omega) (by omega)).mono ?_; rintro e w2 ⟨rfl, hc2, h2⟩
    go_wp2_with fail
    refine (TNew_in m _ (by omega) (by omega)).mono ?_; rintro e w3 ⟨rfl, hc3, h3⟩
    have hTP : TP w0 w3 w1.heap.size n [] w2.heap.size m [] := ⟨(hc1.trans hc2 (by simp)).trans hc3 (by simp), _, _, h2.self hc3, h3, by simpa using hc1.size, by simpa using (hc1.trans hc2 (by simp)).size, by have := h2.lt w1.heap.size (by simp); simp; omega⟩
    generalize w1.heap.size = p at *
    generalize w2.heap.size = p2 at *
    clear hc1 hc2 hc3 h2 h3
    go_wp2_with fail
    have HLEN := Lib.hid hl.len
    clear hq hr hn hm
    go_loopg [11] len (fun gg s9 wr => ∃ k : Nat, k ≤ len ∧ len - k ≤ gg ∧ s9 = .int .i64 k ∧ Aside (TP w0 wr p n (putsT n l k) p2 m (putsT m l k)))
    case atStart => exact ⟨0, by omega, by omega, rfl, by rw [putsT_zero, putsT_zero]; exact hTP⟩
    case round =>
      obtain ⟨k, hk, hg, rfl, HT⟩ := hrel
      clear hTP
      by_cases hlt : k < len
      · have hltz : (k : Int) < (len : Int) := by omega
        obtain ⟨b, off, rfl, hb, hc⟩ := (hl.new HT.out.1).get hlt
        obtain ⟨c0, c1, c2, c3, c4, c5, c6⟩ := hc
        have hP := HT.out.put (l.getD k default)
        have hS1 := Lib.hid (putsT_succ n l (k := k) (by rw [HLEN.out]; exact hlt))
        have hS2 := Lib.hid (putsT_succ m l (k := k) (by rw [HLEN.out]; exact hlt))
        unfold Ht.v at hP
        rw [← hS1.out] at hP
        have HY := Lib.hid (show l.getD k default = l.getD k default from rfl)
        generalize hy : l.getD k default = y at hP c0 c1 c2 c3 c4 c5 c6 hS2
        clear HY
        have HYE := Lib.hid hy
        clear hy
        go_wp2_with fail
        refine hP.mono ?_; rintro e w3 ⟨rfl, h3⟩
        obtain ⟨b', off', e', hb', hc'⟩ := (hl.new h3.1).get hlt
        injection e' with e'; injection e' with e1 e2
        subst e1; subst e2
        rw [HYE.out] at hc'
        have hP2 := h3.swap.put y
        rw [← hS2.out] at hP2
        unfold Ht.v at hP2
        clear c0 c1 c2 c3 c4 c5 c6 hP h3 hb hb'
        obtain ⟨c0, c1, c2, c3, c4, c5, c6⟩ := hc'
        go_wp2_with fail
        refine hP2.mono ?_; rintro e w4 ⟨rfl, h4⟩
        go_wp2_with fail
        go_roundg (len - (k + 1))
        case measure => omega
        case rel => exact ⟨k + 1, by omega, by omega, by go_num, h4.swap⟩
      · have hltz : ¬ (k : Int) < (len : Int) := by omega
        have HWI := Lib.hid (within_drop (n := n) (m := m) l hn1.1 hn1.2.1 (k := k) (by rw [HLEN.out]; exact hk))
        clear hl hlt
        have hT := HT.out
        clear HT hg HLEN
        generalize putsT n l k = X at *
        generalize putsT m l k = Y at *
        obtain ⟨hc0, S, T, hx, hy, _, _, _⟩ := hT
        go_wp2_with fail
        refine (TList_at S p n X _ hx).mono ?_; rintro e w3 ⟨v3, rfl, hc3, ho3, _⟩
        obtain ⟨A3, c3, rfl, _, _⟩ := ho3.form
        have hy3 := hy.self hc3
        have hc03 := hc0.trans hc3 (by simp)
        clear hx hy hc0 hc3
        go_wp2_with fail
        refine (TList_at T p2 m Y _ hy3).mono ?_; rintro e w4 ⟨v4, rfl, hc4, ho4, _⟩
        have hs3 := ho3.slh.new hc4
        have hc04 := hc03.trans hc4 (by simp)
        have hyle := hy3.le
        have hxle := hs3.le
        clear hy3 ho3 hc03 hc4
        obtain ⟨A4, c4, rfl, hn4, hg4⟩ := ho4.form
        have hle1 : X.length ≤ Y.length := HWI.out.1
        have hzle : decide ((X.length : Int) ≤ (Y.length : Int)) = true := by simpa using hle1
        cases A4 with
        | none =>
          obtain ⟨hY0, rfl⟩ := hn4 rfl
          obtain rfl : Y = [] := List.eq_nil_of_length_eq_zero hY0
          obtain rfl : X = [] := List.eq_nil_of_length_eq_zero (by simpa using hle1)
          have hs4 := ho4.slh
          clear HWI ho4 hg4 hn4 hle1 hyle hY0
          go_wp2_with fail
          have hS := TSame_at A3 none 0 0 c3 0 [] [] _ hs3 hs4
          rw [eqHs_self] at hS
          refine hS.mono ?_; rintro e w5 ⟨rfl, hc5⟩
          go_wp2_with fail
          go_ret
          exact ⟨rfl, hc04.trans hc5 (by simp)⟩
        | some a4 =>
          obtain ⟨g, rfl, hg⟩ := hg4 a4 rfl
          obtain ⟨tl, hrow, _, hyc, hcm, _⟩ := ho4.row
          obtain ⟨d, hd⟩ : ∃ d : Nat, d = Y.length - X.length := ⟨_, rfl⟩
          have hdz : (Y.length : Int) - (X.length : Int) = (d : Int) := by omega
          have hs4 := ho4.slh
          obtain ⟨A', hA', hdr⟩ : ∃ A' : Addr, (if c4 = d then some (⟨g, 0, none⟩ : Addr) else some ⟨g, d * 7, none⟩) = some A' ∧ Hid (SlH w4 (some A') (Y.length - d) (Y.drop d)) := by
            by_cases e : c4 = d
            · exact ⟨⟨g, 0, none⟩, by simp [e], hs4.drop (by omega) (.inl (by omega))⟩
            · exact ⟨⟨g, d * 7, none⟩, by simp [e], hs4.drop (by omega) (.inr (by simp))⟩
          have HE : Hid (X = Y.drop d) := by rw [hd]; exact HWI.out.2
          have hdc : d ≤ c4 := by omega
          have hdy : d ≤ Y.length := by omega
          have HD := Lib.hid hd
          clear hd hrow hs4 ho4 hg4 hn4 HWI
          generalize hX : X.length = xl at *
          generalize hY : Y.length = yl at *
          have HX := Lib.hid hX; have HY := Lib.hid hY
          clear hX hY
          go_wp2_with fail
          have hS := TSame_at A3 (some A') xl (yl - d) c3 (c4 - d) X (Y.drop d) _ hs3 hdr.out
          rw [show eqHs X (Y.drop d) = true by rw [← HE.out]; exact eqHs_self _] at hS
          refine hS.mono ?_; rintro e w5 ⟨rfl, hc5⟩
          go_wp2_with fail
          go_ret
          exact ⟨rfl, hc04.trans hc5 (by simp)⟩

end Go.Proofs.Ytikdoldmhlbklaa
