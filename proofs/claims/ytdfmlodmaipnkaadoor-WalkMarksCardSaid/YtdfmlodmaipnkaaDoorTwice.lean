/-
  A helper of the laws of walk: is one of these places another one too?
-/
import Derived.Test.YtdfmlodmaipnkaaDoorWalkH
namespace Go.Proofs.YtdfmlodmaipnkaaDoor
open Go.RowKit Go.Maps

theorem nodup_take {l : List (Int × Int)} {i : Nat} {x : Int × Int} (hx : l[i]? = some x) (hn : (l.take i).Nodup) (hne : ∀ k, k < i → l.getD k (0, 0) ≠ x) : (l.take (i + 1)).Nodup := by
  have hi := (List.getElem?_eq_some_iff.1 hx).1
  rw [List.take_succ_eq_append_getElem hi, (List.getElem?_eq_some_iff.1 hx).2, List.nodup_append]
  refine ⟨hn, by simp, fun a ha b hb e => ?_⟩
  rw [List.mem_singleton] at hb
  subst hb; subst e
  obtain ⟨k, hk, hka⟩ := List.getElem_of_mem ha
  rw [List.length_take] at hk
  refine hne k (by omega) ?_
  rw [List.getElem_take] at hka
  simp only [List.getD_eq_getElem?_getD, List.getElem?_eq_getElem (show k < l.length by omega), Option.getD_some]
  exact hka

set_option maxRecDepth 100000 in
set_option maxHeartbeats 4000000 in
theorem twice_at (A : Option Addr) (N c : Nat) (l : List (Int × Int)) (w : World) (hs : SlA w A N l) (hN : N ≤ 9223372036854775807) :
    Calls Tryd.prog 28 #[.slice A N c] w fun e w' => e = .returned (.bool (!decide l.Nodup)) ∧ Chg [] w w' := by
  have hlen := hs.len
  go_enter Tryd.func28, Tryd.ntmps28
  go_wp2_with fail
  go_loopw [3] (fun i w' => ∃ k : Nat, k ≤ N ∧ i = .int .i64 k ∧ Chg [] w w' ∧ (l.take k).Nodup) (fun i _ => N - (intOf i).toNat)
  case atStart => exact ⟨0, by omega, rfl, Chg.refl [] w, by simp⟩
  case round =>
    obtain ⟨i, hi, rfl, hc, hnd⟩ := hrel
    by_cases hlt : i < N
    · have HND := Lib.hid hnd
      clear hnd
      obtain ⟨ab, off, rfl, _, hx, x0, x1⟩ := (hs.self hc).get hlt
      generalize hgx : l.getD i (0, 0) = x at *
      have HX := Lib.hid hx
      clear hgx hx
      go_wp2_with fail
      go_loopw [4] (fun j w' => ∃ k : Nat, k ≤ i ∧ j = .int .i64 k ∧ Chg [] wr w' ∧ ∀ z, z < k → l.getD z (0, 0) ≠ x) (fun j _ => i - (intOf j).toNat)
      case atStart => exact ⟨0, by omega, rfl, Chg.refl [] wr, fun z hz => by omega⟩
      case round =>
        obtain ⟨k, hk, rfl, hc2, hall⟩ := hrel
        have hcw := hc.trans hc2 (by simp)
        have X0 := (hc2.cell (World.block_lt_of_cell? _ _ x0) (by simp)).trans x0
        have X1 := (hc2.cell (World.block_lt_of_cell? _ _ x1) (by simp)).trans x1
        by_cases hjlt : k < i
        · have hkN : k < N := by omega
          obtain ⟨ab', off', he, _, hy, y0, y1⟩ := (hs.self hcw).get hkN
          injection he with he; injection he with he1 he2
          subst he1; subst he2
          generalize hgy : l.getD k (0, 0) = y at *
          have HY := Lib.hid hy
          have HGY := Lib.hid hgy
          clear hy hgy
          obtain ⟨xg, xi⟩ := x
          obtain ⟨yg, yi⟩ := y
          simp only at X0 X1 y0 y1
          have hq := fun w0 => run_eqlA xg xi yg yi w0
          have hqi := eqA_iff (xg, xi) (yg, yi)
          generalize eqA (xg, xi) (yg, yi) = te at *
          have K0 := fun nq : Cls wr => nq.cell X0
          have K1 := fun nq : Cls wr => nq.cell X1
          have L0 := fun nq : Cls wr => nq.cell y0
          have L1 := fun nq : Cls wr => nq.cell y1
          cases te with
          | true =>
            have HE : Hid (xg = yg ∧ xi = yi) := Lib.hid (by have := hqi.1 rfl; simpa using this)
            clear hqi
            go_wp2_with fail
            refine wp_region_cls (by kernel_rfl) (by kernel_rfl) ?_
            repeat (go_big_quiet_step (fail "no call"))
            refine wpQuiet_nil ?_
            rintro _ ⟨nq, rfl⟩
            go_wp2_with fail
            go_ret
            refine ⟨ret_bool ?_, hcw.trans nq.ok (by simp)⟩
            have hnn : ¬ l.Nodup := fun hn => by
              have h1 := HX.out
              have h2 := HY.out
              rw [← HE.out.1, ← HE.out.2, ← h1] at h2
              have hil := (List.getElem?_eq_some_iff.1 h1).1
              have hkl : k < l.length := by omega
              rw [List.getElem?_eq_getElem hkl, List.getElem?_eq_getElem hil] at h2
              have := (List.getElem_inj hn).1 (Option.some.inj h2)
              omega
            simp [hnn]
          | false =>
            have HE : Hid ((yg, yi) ≠ (xg, xi)) := Lib.hid (fun e => by have := hqi.2 e.symm; cases this)
            clear hqi
            go_wp2_with fail
            refine wp_region_cls (by kernel_rfl) (by kernel_rfl) ?_
            repeat (go_big_quiet_step (fail "no call"))
            refine wpQuiet_nil ?_
            rintro _ ⟨nq, rfl⟩
            go_wp2_with fail
            go_roundw
            case rel =>
              refine ⟨k + 1, by omega, by go_num, hc2.trans nq.ok (by simp), fun z hz => ?_⟩
              by_cases e : z = k
              · subst e; rw [HGY.out]; exact HE.out
              · exact hall z (by omega)
            case measure => simp [intOf]; omega
        · obtain rfl : k = i := by omega
          clear X0 X1
          go_wp2_with fail
          go_roundw
          case rel => exact ⟨k + 1, by omega, by go_num, hcw, nodup_take HX.out HND.out hall⟩
          case measure => simp [intOf]; omega
    · obtain rfl : i = N := by omega
      have HR : Hid (l.Nodup) := Lib.hid (by rw [← hlen, List.take_length] at hnd; exact hnd)
      clear hnd hlen
      go_wp2_with fail
      go_ret
      exact ⟨ret_bool (by simp [HR.out]), hc⟩

end Go.Proofs.YtdfmlodmaipnkaaDoor
