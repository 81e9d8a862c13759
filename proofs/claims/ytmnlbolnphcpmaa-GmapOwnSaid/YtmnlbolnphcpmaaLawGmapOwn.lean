/-
  GmapOwn: the walk.
-/
import Derived.Test.YtmnlbolnphcpmaaGmapArg
import Derived.Test.YtmnlbolnphcpmaaLawGmapBack
namespace Go.Proofs.Ytmnlbolnphcpmaa
open Go.RowKit Go.Maps

set_option maxRecDepth 100000 in
set_option maxHeartbeats 8000000 in
theorem GmapOwn_walk (A : Option Addr) (n c : Nat) (L : List Int) (fr : Int) (w : World) (h : SlK .i64 w A n L) (hnil : A = none → n = 0 ∧ c = 0) :
    Calls Try.prog 6 #[.slice A n c, .int .i64 fr] w fun e w' => e = .returned (.bool true) ∧ Chg [] w w' := by
  have hl := h.le
  have hlen := h.len
  obtain ⟨i0, hi0, hz0, hz1, hz2⟩ := info_parts int_info
  by_cases hbig : 2000 < n
  · go_enter Try.func6, Try.ntmps6
    go_wp2_with fail
    refine (Ghead_any _).mono ?_; rintro e w1 ⟨rfl, hc1⟩
    go_wp2_with fail
    go_ret
    exact ⟨rfl, hc1⟩
  · go_enter Try.func6, Try.ntmps6
    go_wp2_with fail
    refine (Ghead_any _).mono ?_; rintro e w1 ⟨rfl, hc1⟩
    have hs := ((h.chg hc1).chg ((Chg.refl [] _).alloc (.cells #[] 3))).src (c := c) hnil
    go_wp2_with (at_builtin; refine wpList_append_src rfl _ _ 22 rfl w1.heap.size 3 i0 _ 1 8 Try.underlying22 hi0 hz0 hz1 hz2 rfl (by omega) _ _ _ rfl (World.ownsRow_made w1 #[] 0 (Nat.le_refl _) (Nat.zero_le _) (by simp)) A n c (vals .i64 L) rfl hs (by simp [maxLen]; omega) (by omega) (by simp) ?_; intro v3 w3 hown3 hc3 hv3; obtain ⟨A3, c3, rfl, _, _⟩ := own_form hown3)
    simp only [List.nil_append, Nat.zero_add] at hown3
    have hca : Chg [] w w3 := (hc1.alloc _).trans hc3 (by intro i hi hm; rw [Option.mem_toList] at hm; change some w1.heap.size = some i at hm; injection hm with hm; have := hc1.size; omega)
    have hgz : ∀ g ∈ (Value.slice A3 n c3).ownBlock.toList, w.heap.size ≤ g := fun g hg => by
      have := (World.ownsRow.lt hown3 g (by simpa using hg)).1
      have := hc1.size
      omega
    have ho := own_any hown3 hlen
    clear hown3 hc3 hv3 hs hc1
    have hsl : SlK .i64 w3 A3 n L := OwnI.slk ho h.wf (by omega)
    by_cases hok : OkL L fr
    · refine (GNew_ok A3 n c3 L fr _ hsl hok).mono ?_; rintro e w4 ⟨p, S, rfl, hc4, hg4, hS⟩
      have hb := ho.lt
      obtain ⟨gb, c', e', hc', _⟩ := ho.pos_ hok.1
      injection e' with e1 e2 e3
      subst e1; subst e3
      have hgb : w.heap.size ≤ gb := hgz gb (by simp [Value.ownBlock])
      have hgS : ∀ i ∈ S, i ≠ gb := fun i hi e => by
        have := hS i hi
        have := hb gb (by simp [Value.ownBlock])
        omega
      have hcb := hca.trans hc4 (by simp)
      have ho4 := ho.chg hc4 (by simp)
      have hn64 : n ≤ 64 := hlen ▸ hok.2.1
      clear hc4 hca ho hsl hS hgz hb e2 hc'
      go_wp2_with fail
      go_loopw [8] (fun i w' => ∃ (k : Nat) (L' : List Int), k ≤ n ∧ i = .int .i64 k ∧ L'.length = n ∧ Chg [] w w' ∧ GAt w' S p L ∧ OwnI w' 3 .i64 (.slice (some ⟨gb, 0, none⟩) n c3) L') (fun i _ => n - (intOf i).toNat)
      case atStart => exact ⟨0, L, by omega, rfl, hlen, hcb, hg4, ho4⟩
      case round =>
        clear hcb hg4 ho4
        obtain ⟨k, L', hk, rfl, hL', hck, hgk, hok'⟩ := hrel
        by_cases hlt : k < n
        · have d := hok'.cell k (by omega)
          have fz := hok'.frozen k
          have ho5 := hok'.set_ k (by omega) (-1)
          have hcs : Chg [gb] wr (wr.setCell ⟨gb, k, none⟩ (.int .i64 (-1))) := (Chg.refl _ _).setCell (by simp) _
          have hg5 := hgk.chg hcs (by intro i hi hm; simp at hm; exact hgS i hi hm)
          have hc5 := hck.trans hcs (by intro i hi hm; simp at hm; omega)
          clear hck hgk hok' hcs
          go_wp2_with fail
          go_roundw
          case rel => exact ⟨k + 1, _, by omega, by go_num, by rw [List.length_set]; exact hL', hc5, hg5, ho5⟩
          case measure => simp [intOf]; omega
        · clear hok'
          go_wp2_with fail
          go_loopw [9] (fun i w' => ∃ k : Nat, k ≤ n ∧ i = .int .i64 k ∧ Chg [] w w' ∧ GAt w' S p L) (fun i _ => n - (intOf i).toNat)
          case atStart => exact ⟨0, by omega, rfl, hck, hgk⟩
          case round =>
            clear hck hgk hk hlt
            obtain ⟨k, hk, rfl, hck, hgk⟩ := hrel
            by_cases hlt : k < n
            · obtain ⟨b, off, rfl, hb, d, _⟩ := (h.chg hck).get hlt
              obtain ⟨hv, hvb⟩ := atV_nat L k (by omega)
              generalize L.getD k 0 = x at *
              go_wp2_with fail
              refine (GHost_is S p L k _ _ _ hgk hv hvb).mono ?_; rintro e w' ⟨rfl, rfl⟩
              clear hv hvb
              go_wp2_with fail
              go_roundw
              case rel => exact ⟨k + 1, by omega, by go_num, hck, hgk⟩
              case measure => simp [intOf]; omega
            · have hno : locO L (-1) = none := by
                cases hq : locO L (-1) with
                | none => rfl
                | some q =>
                  have hm : L.contains (-1) = true := by rw [← locO_some, hq]; rfl
                  have := hok.2.2.2.2.1 _ (List.contains_iff_mem.1 hm)
                  omega
              go_wp2_with fail
              refine (GGuest_is S p L (-1) 0 false _ hgk (by omega) (by rw [hno]; rfl) (by rw [hno]; rfl)).mono ?_; rintro e w6 ⟨rfl, hc6⟩
              go_wp2_with fail
              go_ret
              exact ⟨rfl, hck.trans hc6 (by simp)⟩
    · refine (GNew_no A3 n c3 L fr _ hsl hok).mono ?_; rintro e w4 ⟨rfl, hc4⟩
      go_wp2_with fail
      go_ret
      exact ⟨rfl, hca.trans hc4 (by simp)⟩

end Go.Proofs.Ytmnlbolnphcpmaa
