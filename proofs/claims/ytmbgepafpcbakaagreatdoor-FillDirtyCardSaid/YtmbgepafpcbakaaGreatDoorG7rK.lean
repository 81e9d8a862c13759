/-
 GuestC, GuestD, GuestR in one text.
-/
import Derived.Test.YtmbgepafpcbakaaGreatDoorG7K
import Derived.Test.YtmbgepafpcbakaaGreatDoorG3K
namespace Go.Proofs.YtmbgepafpcbakaaGreatDoor
open Go.RowKit Go.Maps
theorem make_none (n : Nat) (hn : n ≤ 1073741824) (w : World) :
  (Instr.makeSlice 68 (.int .i64 0) (.int .i64 n)).run Tryz.prog w = .ok (.slice (some ⟨w.heap.size, 0, none⟩) 0 n) (w.alloc (.cells (u64s (zeros n)) 59)) := by
 obtain ⟨i, hi, hz, hs, hb⟩ := info_parts u64_info
 have h := run_make (P := Tryz.prog) w 68 59 i (.int .u64 0) Tryz.underlying68 hi hz .i64 .i64 0 n (by omega) (Int.natCast_nonneg n) (by rw [hb]; omega) (by omega)
 rw [hs] at h
 rw [← u64s_zero]
 rw [madeCells_const (Value.int .u64 0).cells (.int .u64 0) _ 1 (by decide) rfl] at h
 simpa using h
theorem own_room {w : World} {t : TypeId} {g c : Nat} {cs : Array Value} (h : Blk w g t cs) (hc : cs.size = c) (hm : c ≤ maxLen) : w.ownsRow 0 t 1 (.slice (some ⟨g, 0, none⟩) 0 c) 0 [] :=
 ⟨by simp, .inr ⟨g, c, cs, rfl, Nat.zero_le _, h, Nat.zero_le _, hm, by omega, by simp⟩⟩
set_option maxHeartbeats 2000000 in
theorem GuAll_at (q : Nat) (S : List Nat) (p : Nat) (L : List Int) (h b n : Nat) (W : List Int) (w : World) (g : GuIn w q S p L h b n W) :
    Calls Tryz.prog 36 #[.pointer (some ⟨q, 0, none⟩)] w fun e w' => ∃ A c, e = .returned (.slice A (8 * L.length) c) ∧ Chg [] w w' ∧ OwnI w' 59 .u64 (.slice A (8 * L.length) c) (allG W L) ∧ ∀ i ∈ (Value.slice A (8 * L.length) c).ownBlock.toList, w.heap.size ≤ i := by
  obtain ⟨hl1, hl2, hnd⟩ := g.ok
  have hinn := g.inn
  have hWl := g.hm.len
  have HND := Lib.hid hnd; have HWL := Lib.hid hWl
  clear hnd hWl
  obtain ⟨i0, hi0, hz0, hz1, hz2⟩ := info_parts u64_info
  have hmk : ∀ w : World, (Instr.makeSlice 68 (.int .i64 0) (.int .i64 (↑L.length * 8))).run Tryz.prog w = .ok (.slice (some ⟨w.heap.size, 0, none⟩) 0 (8 * L.length)) (w.alloc (.cells (u64s (zeros (8 * L.length))) 59)) := fun w => by
    have := make_none (8 * L.length) (by omega) w
    rw [show ((8 * L.length : Nat) : Int) = ↑L.length * 8 by omega] at this
    exact this
  go_enter Tryz.func36, Tryz.ntmps36
  go_wp2_with fail
  refine (GuFrames_at q S p L h b n W _ g).mono ?_; rintro e w' ⟨rfl, rfl⟩
  go_wp2_with fail
  have hbn := Blk.new w 59 (u64s (zeros (8 * L.length)))
  have hown := own_room (c := 8 * L.length) hbn (by simp [u64s, zeros]) (by simp [maxLen]; omega)
  have hca : Chg [] w (w.alloc (.cells (u64s (zeros (8 * L.length))) 59)) := (Chg.refl _ _).alloc _
  have hga := g.self hca
  clear hbn hmk
  refine (GuFrames_at q S p L h b n W _ hga).mono ?_; rintro e w' ⟨rfl, rfl⟩
  go_wp2_with fail
  go_loopw [3, 13] (fun v i w' => ∃ k : Nat, k ≤ L.length ∧ i = .int .i64 k ∧ Chg [] w w' ∧ w'.ownsRow 0 59 1 v (8 * k) (vals .u64 ((allG W L).take (8 * k))) ∧ (∀ i ∈ v.ownBlock.toList, w.heap.size ≤ i)) (fun _ i _ => L.length - (intOf i).toNat)
  case atStart => exact ⟨0, by omega, rfl, hca, by simpa [vals] using hown, by simp [Value.ownBlock]⟩
  case round =>
    clear hown hca hga
    obtain ⟨k, hk, rfl, hc, ho, hg⟩ := hrel
    obtain ⟨A, c, rfl, hA1, hA2⟩ := own_form ho
    by_cases hlt : k < L.length
    · have g := g.self hc
      obtain ⟨c0, c1⟩ := g.c
      obtain ⟨f, hf, hfn⟩ := hinn.at_ hlt
      have hb : atB L.length k = true := by simp [atB]; omega
      have hv : atV L k = f := by unfold atV; rw [hb, if_pos rfl]; simpa using hf
      have hstep := all_frame hinn HWL.out hlt
      rw [hf, Int.toNat_natCast] at hstep
      have HS := Lib.hid hstep
      have HF := Lib.hid (frameOf_len (L := W) HWL.out hfn)
      clear hstep hf
      go_wp2_with fail
      refine (GHost_is S p L k f true _ g.mp hv hb).mono ?_; rintro e w' ⟨rfl, rfl⟩
      clear hv hb
      go_wp2_with fail
      refine (Frame_yes h b n W f _ g.hm hfn).mono ?_; rintro e w3 ⟨rfl, hc3, _, hb3⟩
      have ho3 := own_chg ho hc3 (by simp)
      have hs3 : Src w3 1 (some ⟨wr.heap.size, 0, none⟩) 8 8 (vals .u64 (frameOf W f)) := (SlU.of_blk hb3 HF.out).src (by simp)
      clear ho g hb3
      go_wp2_with (at_builtin; refine wpList_append_src rfl _ _ 68 rfl 0 59 i0 _ 1 8 Tryz.underlying68 hi0 hz0 hz1 hz2 rfl (by omega) _ _ _ rfl ho3 _ 8 8 _ rfl hs3 (by simp [maxLen]; omega) (by omega) (by simp) ?_
                   intro v4 w4 hown4 hc4 hv4
                   obtain ⟨A4, c4, rfl, _, _⟩ := own_form hown4)
      have hcc := (hc.trans hc3 (by simp)).trans hc4 (by intro i hi hm; have := hg i hm; omega)
      have hlt3 := hc3.size
      have hlow : ∀ i ∈ (Value.slice A4 (8 * k + 8) c4).ownBlock.toList, w.heap.size ≤ i := by
        intro i hi
        rcases hv4 with e | e
        · rw [e] at hi; exact hg i hi
        · rw [e] at hi; simp at hi; have := hc.size; omega
      go_roundw
      case rel =>
        refine ⟨k + 1, by omega, by go_num, hcc, ?_, hlow⟩
        rw [show 8 * (k + 1) = 8 * k + 8 by omega, HS.out, vals_app]
        exact hown4
      case measure => simp [intOf]; omega
    · obtain rfl : k = L.length := by omega
      go_wp2_with fail
      go_ret
      refine ⟨A, c, rfl, hc, ?_, hg⟩
      rw [all_full] at ho
      exact own_any ho (by rw [allG_len])
section
variable {w w' : World} {q p h b n : Nat} {S T : List Nat} {L W W' : List Int}
end
end Go.Proofs.YtmbgepafpcbakaaGreatDoor
