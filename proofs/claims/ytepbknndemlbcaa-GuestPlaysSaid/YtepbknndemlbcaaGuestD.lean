/-
  The contract of guest's Load.
-/
import Derived.Test.YtepbknndemlbcaaGuestC
namespace Go.Proofs.Ytepbknndemlbcaa
open Go.RowKit Go.Maps

/-- a part of a slice of words, with room for no more -/
theorem run_part {P : Program} (t e : TypeId) (ht : P.underlying t = some (.slice e)) (hz : ∀ w, (Go.sizeOf e).run P w = .ok 1 w) (a : Addr) (len cap l h : Nat) (h1 : l < h) (h2 : h ≤ cap) (w : World) :
    (Instr.slice t (.slice (some a) len cap) (some (.int .i64 l)) (some (.int .i64 h)) (some (.int .i64 h))).run P w = .ok (.slice (some (a.add l)) (h - l) (h - l)) w := by
  have hel : P.elem t = e := by simp [Program.elem, ht]
  rw [run_slice_lhm w t (some a) len cap (hel.symm ▸ ht) .i64 .i64 .i64 l h h (by omega) (by omega) (by omega) (by omega), hel, hz]
  simp [Result.andThen, sliced, show ¬ h = l by omega]

theorem sizeU (w : World) : (Go.sizeOf 38).run Try.prog w = .ok 1 w := by kernel_rfl

theorem SlU.part {w : World} {b off m : Nat} {xs : List Int} (h : SlU w (some ⟨b, off, none⟩) m xs) (o n : Nat) (hn : o + n ≤ m) : SlU w (some ⟨b, off + o, none⟩) n ((xs.drop o).take n) := by
  have hl := h.len
  refine ⟨by rw [List.length_take, List.length_drop]; omega, fun h0 => ?_⟩
  obtain ⟨b', off', e, hb, hr⟩ := h.at_ (by omega)
  injection e with e; injection e with e1 e2; subst e1; subst e2
  refine ⟨b, off + o, rfl, hb, fun j u hu => ?_⟩
  rw [List.getElem?_take] at hu
  split at hu
  · rw [List.getElem?_drop] at hu
    rw [Nat.add_assoc]; exact hr _ u hu
  · cases hu

theorem Fill_part (p b n : Nat) (L : List Int) (f : Nat) (A : Option Addr) (c : Nat) (xs : List Int) (w : World) (h : MemAt w p b n L) (hf : f < n) (hs : SlU w A 8 xs) :
    Calls Try.prog 36 #[.pointer (some ⟨p, 0, none⟩), .int .i64 f, .slice A 8 c] w fun e w' => e = .returned (.bool true) ∧ Chg [b] w w' ∧ MemAt w' p b n (setAll L (f * 8) xs) :=
  (Fill_yes p b n L f A c xs w h hf hs).mono fun _ _ ⟨h1, h2, _, h3⟩ => ⟨h1, h2, h3⟩

set_option maxHeartbeats 2000000 in
theorem GuLoad_no (q : Nat) (S : List Nat) (p : Nat) (L : List Int) (h b n : Nat) (W : List Int) (A : Option Addr) (m c : Nat) (w : World) (g : GuIn w q S p L h b n W) (hm : m ≤ 9223372036854775807) (hne : m ≠ 8 * L.length) :
    Calls Try.prog 17 #[.pointer (some ⟨q, 0, none⟩), .slice A m c] w fun e w' => e = .returned (.bool false) ∧ w = w' := by
  obtain ⟨hl1, hl2, hnd⟩ := g.ok
  clear hnd
  have e1 : ((m : Int) != ↑L.length * 8) = true := by simp; omega
  go_enter Try.func17, Try.ntmps17
  go_wp2_with fail
  refine (GuFrames_at q S p L h b n W _ g).mono ?_; rintro e w' ⟨rfl, rfl⟩
  go_wp2_with fail
  go_ret
  exact ⟨rfl, rfl⟩

set_option maxHeartbeats 2000000 in
theorem GuLoad_yes (q : Nat) (S : List Nat) (p : Nat) (L : List Int) (h b n : Nat) (W : List Int) (A : Option Addr) (m c : Nat) (xs : List Int) (w : World) (g : GuIn w q S p L h b n W) (hs : SlU w A m xs) (hmc : m ≤ c) (hap : ∀ g o, A = some ⟨g, o, none⟩ → g ≠ b) (he : m = 8 * L.length) :
    Calls Try.prog 17 #[.pointer (some ⟨q, 0, none⟩), .slice A m c] w fun e w' => e = .returned (.bool true) ∧ Chg [b] w w' ∧ GuIn w' q S p L h b n (loadTo W L xs L.length) := by
  obtain ⟨hl1, hl2, hnd⟩ := g.ok
  have hinn := g.inn
  have hWl := g.hm.len
  have HND := Lib.hid hnd; have HWL := Lib.hid hWl
  clear hnd hWl
  subst he
  obtain ⟨ab, off, rfl, hab, _⟩ := hs.at_ (by omega)
  have hapb := hap ab off rfl
  have e1 : (((8 * L.length : Nat) : Int) != ↑L.length * 8) = false := by rw [show ((8 * L.length : Nat) : Int) = ↑L.length * 8 by omega]; simp
  go_enter Try.func17, Try.ntmps17
  go_wp2_with fail
  refine (GuFrames_at q S p L h b n W _ g).mono ?_; rintro e w' ⟨rfl, rfl⟩
  go_wp2_with fail
  refine (GuFrames_at q S p L h b n W _ g).mono ?_; rintro e w' ⟨rfl, rfl⟩
  go_wp2_with fail
  go_loopw [18] (fun i w' => ∃ k : Nat, k ≤ L.length ∧ i = .int .i64 k ∧ Chg [b] w w' ∧ GuIn w' q S p L h b n (loadTo W L xs k)) (fun i _ => L.length - (intOf i).toNat)
  case atStart => exact ⟨0, by omega, rfl, Chg.refl _ _, g⟩
  case round =>
    clear g
    obtain ⟨k, hk, rfl, hc, g⟩ := hrel
    by_cases hlt : k < L.length
    · obtain ⟨c0, c1⟩ := g.c
      obtain ⟨f, hf, hfn⟩ := hinn.at_ hlt
      have hb : atB L.length k = true := by simp [atB]; omega
      have hv : atV L k = f := by unfold atV; rw [hb, if_pos rfl]; simpa using hf
      have hsp := (hs.chg hc (fun g o e => by injection e with e; injection e with e _; subst e; simpa using hapb)).part (8 * k) 8 (by omega)
      have hsl : ∀ w : World, (Instr.slice 39 (.slice (some ⟨ab, off, none⟩) (8 * L.length) c) (some (.int .i64 (↑k * 8))) (some (.int .i64 ((↑k + 1) * 8))) (some (.int .i64 ((↑k + 1) * 8)))).run Try.prog w = .ok (.slice (some ⟨ab, off + 8 * k, none⟩) 8 8) w := fun w => by
        have := run_part (P := Try.prog) 39 38 Try.underlying39 sizeU ⟨ab, off, none⟩ (8 * L.length) c (8 * k) (8 * (k + 1)) (by omega) (by omega) w
        rw [add_at, show 8 * (k + 1) - 8 * k = 8 by omega, show ((8 * k : Nat) : Int) = ↑k * 8 by omega, show ((8 * (k + 1) : Nat) : Int) = (↑k + 1) * 8 by omega] at this
        exact this
      have hlo : loadTo W L xs (k + 1) = setAll (loadTo W L xs k) (f * 8) ((xs.drop (8 * k)).take 8) := by
        show setAll (loadTo W L xs k) ((L.getD k 0).toNat * 8) _ = _
        rw [hf, Int.toNat_natCast]
      have HF := Lib.hid hlo
      clear hlo
      clear hf
      go_wp2_with fail
      refine (GHost_is S p L k f true _ g.mp hv hb).mono ?_; rintro e w' ⟨rfl, rfl⟩
      clear hv hb
      go_wp2_with fail
      have hcall := Fill_part h b n (loadTo W L xs k) f (some ⟨ab, off + 8 * k, none⟩) 8 ((xs.drop (8 * k)).take 8) wr.drew (g.hm.chg ((Chg.refl [] wr).drew) (by simp) (by simp)) hfn (hsp.chg ((Chg.refl [] wr).drew) (by simp))
      refine wp_region_still_tail 10 (by kernel_rfl) (by kernel_rfl) ?_
      simp only [List.take_succ_cons, List.take_zero, List.drop_succ_cons, List.drop_zero]
      change wpStill _ _ (World.drew _) _ _ _
      iterate 10 still_step
      refine wpStill_nil ?_
      change wpList _ _ _ _ _ (World.drew wr)
      clear hsl hsp
      go_wp2_with fail
      refine hcall.mono ?_; rintro e w3 ⟨rfl, hc3, hm3⟩
      clear hcall
      have hcw : Chg [b] wr w3 := ((Chg.refl [b] wr).drew).trans hc3 (by simp)
      have hg3 := g.write hcw hm3
      go_wp2_with fail
      go_roundw
      case rel => exact ⟨k + 1, by omega, by go_num, hc.trans hcw (by simp), by rw [HF.out]; exact hg3⟩
      case measure => simp [intOf]; omega
    · obtain rfl : k = L.length := by omega
      go_wp2_with fail
      go_ret
      exact ⟨rfl, hc, g⟩

theorem GuLoad_at (q : Nat) (S : List Nat) (p : Nat) (L : List Int) (h b n : Nat) (W : List Int) (A : Option Addr) (m c : Nat) (xs : List Int) (w : World) (g : GuIn w q S p L h b n W) (hs : SlU w A m xs) (hm : m ≤ 9223372036854775807) (hmc : m ≤ c) (hap : 0 < m → ∀ g o, A = some ⟨g, o, none⟩ → g ≠ b) :
    Calls Try.prog 17 #[.pointer (some ⟨q, 0, none⟩), .slice A m c] w fun e w' => e = .returned (.bool (loadB L m)) ∧ Chg [b] w w' ∧ GuIn w' q S p L h b n (loadG W L xs) := by
  have hl := hs.len
  by_cases he : m = 8 * L.length
  · have hb : loadB L m = true := by simp [loadB, he]
    have hx : loadG W L xs = loadTo W L xs L.length := by unfold loadG; rw [hl, hb, if_pos rfl]
    rw [hb, hx]
    exact GuLoad_yes q S p L h b n W A m c xs w g hs hmc (hap (by have := g.ok.1; omega)) he
  · have hb : loadB L m = false := by simp [loadB, he]
    have hx : loadG W L xs = W := by unfold loadG; rw [hl, hb]; rfl
    rw [hb, hx]
    exact (GuLoad_no q S p L h b n W A m c w g hm he).mono fun _ _ ⟨h1, h2⟩ => ⟨h1, h2 ▸ Chg.refl _ _, h2 ▸ g⟩

end Go.Proofs.Ytepbknndemlbcaa
