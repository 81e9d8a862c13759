/-
  The contracts of choice.Put and choice.Get.
-/
import Derived.Test.YtgebfagiomcmbaaGreatDoorChoiceAK
import Derived.Deep.LoopGhost
import Derived.Laws.BytesArg
namespace Go.Proofs.YtgebfagiomcmbaaGreatDoor
open Go.RowKit Go.Shelf

theorem num_hi {f : Bool} {p : Int} (h : Ch.ok ⟨f, p⟩ = true) : Ch.num ⟨f, p⟩ / 256 % 256 = Ch.hi ⟨f, p⟩ ∧ Ch.num ⟨f, p⟩ % 256 = Ch.lo ⟨f, p⟩ := by
  unfold Ch.ok at h; rw [decide_eq_true_eq] at h; simp only at h
  unfold Ch.num Ch.hi Ch.lo
  cases f <;> simp <;> omega
theorem bytC_app (a b : List Ch) : bytC (a ++ b) = bytC a ++ bytC b := by simp [bytC]
theorem bytC_succ {l : List Ch} {k : Nat} {c : Ch} (hc : l[k]? = some c) : bytC (l.take (k + 1)) = bytC (l.take k) ++ [c.hi, c.lo] := by
  have hk := (List.getElem?_eq_some_iff.1 hc).1
  have he := (List.getElem?_eq_some_iff.1 hc).2
  rw [List.take_succ_eq_append_getElem hk, he, bytC_app]; simp [bytC]
theorem all_succ {l : List Ch} {k : Nat} {c : Ch} (hc : l[k]? = some c) : (l.take (k + 1)).all Ch.ok = ((l.take k).all Ch.ok && c.ok) := by
  have hk := (List.getElem?_eq_some_iff.1 hc).1
  have he := (List.getElem?_eq_some_iff.1 hc).2
  rw [List.take_succ_eq_append_getElem hk, he]; simp
theorem all_not {l : List Ch} {k : Nat} {c : Ch} (hc : l[k]? = some c) (h : c.ok = false) : putC l = [] := by
  unfold putC
  rw [if_neg]
  intro ha
  rw [List.all_eq_true] at ha
  have := ha c (List.mem_of_getElem? hc)
  rw [h] at this; cases this

set_option maxRecDepth 100000 in
set_option maxHeartbeats 4000000 in
theorem ChPut_any (A : Option Addr) (nn c : Nat) (l : List Ch) (w : World) (hs : SlG chE w A nn l) (hb : nn ≤ 1000000) :
    Calls Tryz.prog 26 #[.slice A nn c] w fun e w' => ∃ A' c', e = .returned (.slice A' (putC l).length c') ∧ OwnG (numE .u8) w' 5 (.slice A' (putC l).length c') (putC l) ∧ (∀ g ∈ (Value.slice A' (putC l).length c').ownBlock.toList, w.heap.size ≤ g) ∧ Chg [] w w' := by
  have hll := Lib.hid hs.len
  go_enter Tryz.func26, Tryz.ntmps26
  go_wp2_with fail
  go_loopg [3, 9] nn (fun gg s3 s9 wr => ∃ (k : Nat) (A' : Option Addr) (c' : Nat), k ≤ nn ∧ nn - k ≤ gg ∧ s3 = .slice A' (2 * k) c' ∧ s9 = .int .i64 k ∧ Aside (OwnG (numE .u8) wr 5 (.slice A' (2 * k) c') (bytC (l.take k))) ∧ Aside (∀ g ∈ (Value.slice A' (2 * k) c').ownBlock.toList, w.heap.size ≤ g) ∧ Aside (Chg [] w wr) ∧ Aside ((l.take k).all Ch.ok = true))
  case atStart => exact ⟨0, none, 0, by omega, by omega, rfl, rfl, (OwnG.none_ w _ : OwnG (numE .u8) w 5 (.slice none 0 0) (bytC (l.take 0))), (by intro g hg; simp [Value.ownBlock] at hg), Chg.refl [] w, (by show (l.take 0).all Ch.ok = true; simp)⟩
  case round =>
    obtain ⟨k, A', c', hk, hg, rfl, rfl, ho, hlo, h0, hall⟩ := hrel
    have ho := ho.out; have hlo := hlo.out; have h0 := h0.out
    by_cases hlt : k < nn
    · obtain ⟨bl, off, ⟨cf, cp⟩, rfl, hbl, hx, c0, c1⟩ := SlC.get (hs.new h0) hlt
      simp only at c0 c1
      have al := (Chg.refl [] wr).alloc (.cells #[.bool cf, .int .i64 cp] 56)
      have B := Blk.new wr 56 #[.bool cf, .int .i64 cp]
      have h1 := h0.trans al (by simp)
      have o1 := ho.new al
      have hR := fun w9 => ChRight_any cf cp w9
      have hbad := all_not hx
      have hby := bytC_succ hx
      have hal := all_succ hx
      clear al ho h0 hx
      go_wp2_with fail
      generalize hw1 : wr.alloc (.cells #[.bool cf, .int .i64 cp] 56) = w1 at *
      generalize wr.heap.size = g at *
      clear hw1 c0 c1
      obtain ⟨c0, c1⟩ := blk2 B
      cases hok : Ch.ok ⟨cf, cp⟩ with
      | false =>
        rw [hok] at hR
        have hbad := Lib.hid (hbad hok)
        clear hok hal hby
        go_wp2_with fail
        refine (hR _).mono ?_; rintro e w2 ⟨rfl, k2⟩
        go_wp2_with fail
        go_ret
        rw [hbad.out]
        exact ⟨none, 0, rfl, OwnG.none_ _ _, by simp [Value.ownBlock], h1.trans k2 (by simp)⟩
      | true =>
        rw [hok] at hR hal
        have hh := num_hi hok
        have hN := fun w9 => ChNum_any cf cp w9 hok
        have hal : Hid ((l.take (k + 1)).all Ch.ok = true) := Lib.hid (by rw [hal, hall.out]; rfl)
        clear hok hbad
        go_wp2_with fail
        refine (hR _).mono ?_; rintro e w2 ⟨rfl, k2⟩
        have B2 := k2.blk B (by simp)
        clear c0 c1 hR
        obtain ⟨c0, c1⟩ := blk2 B2
        go_wp2_with fail
        refine (hN _).mono ?_; rintro e w3 ⟨rfl, k3⟩
        have o3 := (o1.chg k2 (by simp)).chg k3 (by simp)
        have h3 := (h1.trans k2 (by simp)).trans k3 (by simp)
        clear c0 c1 hN o1 h1 k2 k3 B B2
        have hlen : (bytC (l.take k)).length = 2 * k := by rw [bytC_len, List.length_take, Nat.min_eq_left (by rw [hll.out]; omega)]
        rw [← hh.1, ← hh.2] at hby
        clear hh
        generalize Ch.num ⟨cf, cp⟩ = nu at *
        have hby := Lib.hid hby
        go_wp2_with (at_builtin; refine wpList_append_G rfl _ _ 25 rfl 5 (.int .u8 0) 1 Tryz.underlying25 (by kernel_rfl) rfl (.slice A' (2 * k) c') _ rfl (o3.new ((Chg.refl [] w3).alloc _)) (some ⟨w3.heap.size, 0, none⟩) 2 2 [nu / 256 % 256, nu % 256] rfl (OwnG.src (OwnG.lit (Blk.new w3 5 #[.int .u8 (nu / 256 % 256), .int .u8 (nu % 256)]) (by simp))) rfl (by omega) ?_; intro v4 w4 ho4 hc4 hv4; obtain ⟨A4, c4, rfl, _, _⟩ := ho4.form)
        have al := (Chg.refl [] w3).alloc (.cells #[.int .u8 (nu / 256 % 256), .int .u8 (nu % 256)] 5)
        have h4 := (h3.trans al (by simp)).trans hc4 (by intro i hi hm; have := hlo i hm; omega)
        have hsz := h3.size
        have lo4 : ∀ g ∈ (Value.slice A4 (2 * (k + 1)) c4).ownBlock.toList, w.heap.size ≤ g := by
          intro i hi
          replace hi : i ∈ (Value.slice A4 (bytC (List.take k l) ++ [nu / 256 % 256, nu % 256]).length c4).ownBlock.toList := by cases A4 <;> exact hi
          rcases hv4 with e | e
          · rw [e] at hi; exact hlo i hi
          · rw [e] at hi; simp at hi; omega
        have ho5 : OwnG (numE .u8) w4 5 (.slice A4 (2 * (k + 1)) c4) (bytC (l.take (k + 1))) := by
          rw [hby.out]
          have h := ho4
          rw [List.length_append, hlen] at h
          exact h
        go_roundg (nn - (k + 1))
        case measure => omega
        case rel => exact ⟨k + 1, A4, c4, by omega, by omega, rfl, by go_num, ho5, lo4, h4, hal.out⟩
    · obtain rfl : k = nn := by omega
      rw [show l.take k = l from by rw [← hll.out, List.take_length]] at *
      have e : putC l = bytC l := by unfold putC; rw [if_pos hall.out]
      go_wp2_with fail
      go_ret
      have e2 : (bytC l).length = 2 * k := by rw [bytC_len, hll.out]
      rw [e, e2]
      exact ⟨A', c', rfl, ho, hlo, h0⟩
end Go.Proofs.YtgebfagiomcmbaaGreatDoor
