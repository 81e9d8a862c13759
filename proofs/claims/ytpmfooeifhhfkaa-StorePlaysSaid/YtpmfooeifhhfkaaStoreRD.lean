/-
  The document's store: All.
-/
import Derived.Test.YtpmfooeifhhfkaaStoreRC
namespace Go.Proofs.Ytpmfooeifhhfkaa
open Go.RowKit Go.Maps
theorem Int_info : ((Try.prog.info? 3).map (fun i => (i.zero, i.size, i.bytes))) = some (some (.int .i64 0), 1, 8) := by kernel_rfl
section
variable {q rp rb fp n a m : Nat} {s : Sr} {LA : Option Addr} {lc : Nat} {R : List (Option Addr × Nat)} {FS : List Nat}
set_option maxRecDepth 100000 in
set_option maxHeartbeats 2000000 in
theorem RAll14_any (w : World) (h : RStX w q rp rb fp n a m s LA lc R FS) (hN : s.L.length ≤ 256) :
    Calls Try.prog 27 #[.pointer (some ⟨q, 0, none⟩)] w (NumP (s.L.map Pg.f) w) := by
  obtain ⟨F, hF⟩ : ∃ F, s.L.map Pg.f = F := ⟨_, rfl⟩
  have hFl : F.length = s.L.length := by rw [← hF, List.length_map]
  have hFj : ∀ (j : Nat) (p : Pg), s.L[j]? = some p → F[j]? = some p.f := fun j p e => by rw [← hF, List.getElem?_map, e]; rfl
  rw [hF]
  clear hF
  replace hFl := Lib.hid hFl
  go_enter Try.func27, Try.ntmps27
  go_wp2_with fail
  go_loopw [3, 4] (fun s3 s4 wr => ∃ (j : Nat) (A : Option Addr) (c : Nat), j ≤ s.L.length ∧ s4 = .int .i64 j ∧ s3 = .slice A j c ∧ LG (numE .i64) w wr 3 (.slice A j c) (F.take j)) (fun _ s4 _ => s.L.length - (intOf s4).toNat)
  case atStart => exact ⟨0, none, 0, by omega, rfl, rfl, by simpa using LG.none_ w 3⟩
  case round =>
    obtain ⟨j, A, c, hj, rfl, rfl, lg⟩ := hrel
    have hr := h.new lg.1
    have q2 := hr.st.cell 2
    simp only [List.getElem?_toArray, List.getElem?_cons_zero, List.getElem?_cons_succ] at q2
    by_cases hlt : j < s.L.length
    · have hjz : (j : Int) < (s.L.length : Int) := by omega
      obtain ⟨b, off, pg, r, rfl, hq, _, d0, _, _, _, _⟩ := hr.page hlt
      have htk : Hid (F.take (j + 1) = F.take j ++ [pg.f]) := Lib.hid (by rw [List.take_add_one, hFj j pg hq]; rfl)
      have hjl : (F.take j).length = j := by rw [List.length_take, hFl.out]; omega
      have hjl2 : (F.take (j + 1)).length = j + 1 := by rw [List.length_take, hFl.out]; omega
      replace hjl2 := Lib.hid hjl2
      clear hr hq
      generalize pg.f = pf at *
      have k4 := ((Chg.refl [] wr).alloc (.cells #[.int .i64 pf] 3))
      have lg4 := lg.new k4
      have hsrc4 : Src (wr.alloc (.cells #[.int .i64 pf] 3)) (numE .i64).k (some ⟨wr.heap.size, 0, none⟩) 1 1 ((numE .i64).all [pf]) := (OwnG.lit (E := numE .i64) (L := [pf]) (Blk.new wr 3 #[.int .i64 pf]) (by simp)).src
      replace hjl := Lib.hid hjl
      go_wp2_with (at_builtin; (refine wpList_append_G (E := numE .i64) rfl _ _ 50 rfl 3 (.int .i64 0) 8 Try.underlying50 Int_info rfl (.slice A j c) (F.take j) rfl lg4.2.1 (some ⟨wr.heap.size, 0, none⟩) 1 1 [pf] rfl hsrc4 rfl (by rw [hjl.out]; omega) ?_); (intro v5 w5 ho5 hc5 hb5); (have lg5 := lg4.app ho5 hc5 hb5); (obtain ⟨A5, c5, rfl, _, _⟩ := ho5.form); (rw [← htk.out, hjl2.out] at lg5); (rw [← htk.out, hjl2.out]))
      go_roundw
      case rel => exact ⟨j + 1, A5, c5, by omega, by go_num, rfl, lg5⟩
      case measure => simp [intOf]; omega
    · obtain rfl : j = s.L.length := by omega
      have hjz : ¬ (s.L.length : Int) < (s.L.length : Int) := by omega
      rw [List.take_of_length_le (Nat.le_of_eq hFl.out)] at lg
      go_wp2_with fail
      go_ret
      exact ⟨A, c, by rw [hFl.out]; rfl, by rw [hFl.out]; exact lg.2.1, by rw [hFl.out]; exact lg.2.2, lg.1⟩
end

end Go.Proofs.Ytpmfooeifhhfkaa
