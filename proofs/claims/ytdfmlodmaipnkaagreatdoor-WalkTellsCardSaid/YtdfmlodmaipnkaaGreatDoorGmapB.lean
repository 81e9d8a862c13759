/-
  The contract of gmap's New.
-/
import Derived.Test.YtdfmlodmaipnkaaGreatDoorGmapA
namespace Go.Proofs.YtdfmlodmaipnkaaGreatDoor
open Go.RowKit Go.Maps

/-- is L, of a host of so many frames, a map up to place k? -/
def OkTo (L : List Int) (fr : Int) (k : Nat) : Prop := (∀ h ∈ L.take k, 0 ≤ h ∧ h < fr) ∧ (L.take k).Nodup

theorem take_snoc (L : List Int) (k : Nat) (hk : k < L.length) : L.take (k + 1) = L.take k ++ [L.getD k 0] := by
  rw [List.take_succ_eq_append_getElem hk]
  simp [List.getD_eq_getElem?_getD, List.getElem?_eq_getElem hk]
theorem OkTo.succ {L : List Int} {fr : Int} {k : Nat} (h : OkTo L fr k) (hk : k < L.length) (h0 : 0 ≤ L.getD k 0) (h1 : L.getD k 0 < fr) (hn : (L.take k).contains (L.getD k 0) = false) : OkTo L fr (k + 1) := by
  have hn' : L.getD k 0 ∉ L.take k := fun hm => by rw [List.contains_iff_mem.2 hm] at hn; cases hn
  unfold OkTo
  rw [take_snoc L k hk]
  refine ⟨fun x hx => ?_, ?_⟩
  · rw [List.mem_append, List.mem_singleton] at hx
    rcases hx with hx | rfl
    · exact h.1 x hx
    · exact ⟨h0, h1⟩
  · rw [List.nodup_append]
    refine ⟨h.2, by simp, ?_⟩
    intro a ha b hb e
    rw [List.mem_singleton] at hb
    subst hb; subst e; exact hn' ha
theorem ok_bad {L : List Int} {fr : Int} {k : Nat} (hk : k < L.length) (h : L.getD k 0 < 0 ∨ fr ≤ L.getD k 0 ∨ (L.take k).contains (L.getD k 0) = true) : ¬ OkL L fr := by
  rintro ⟨_, _, _, _, h1, h2⟩
  have hm : L.getD k 0 ∈ L := by
    simp only [List.getD_eq_getElem?_getD, List.getElem?_eq_getElem hk, Option.getD_some]; exact List.getElem_mem hk
  have := h1 _ hm
  rcases h with h | h | h
  · omega
  · omega
  · have e : L.take (k + 1) = L.take k ++ [L.getD k 0] := take_snoc L k hk
    have hs := List.Pairwise.sublist (List.take_sublist (k + 1) L) h2
    rw [e] at hs
    rw [← List.nodup_iff_pairwise_ne, List.nodup_append] at hs
    exact hs.2.2 _ (List.contains_iff_mem.1 h) _ (List.mem_singleton.2 rfl) rfl

theorem getD_wf {L : List Int} (h : ∀ x ∈ L, IntKind.i64.min ≤ x ∧ x ≤ IntKind.i64.max) (k : Nat) (hk : k < L.length) : -9223372036854775808 ≤ L.getD k 0 ∧ L.getD k 0 ≤ 9223372036854775807 := by
  have hm : L.getD k 0 ∈ L := by
    simp only [List.getD_eq_getElem?_getD, List.getElem?_eq_getElem hk, Option.getD_some]; exact List.getElem_mem hk
  have := h _ hm
  simpa [IntKind.min, IntKind.max, IntKind.signed, IntKind.bits] using this

theorem blkc2 {w : World} {g : Nat} {t : TypeId} {u0 u1 : Value} (h : Blk w g t #[u0, u1]) : w.cell? ⟨g, 0, none⟩ = some u0 ∧ w.cell? ⟨g, 1, none⟩ = some u1 := by
  have h0 := h.cell 0; have h1 := h.cell 1
  simp only [List.getElem?_toArray, List.getElem?_cons_succ, List.getElem?_cons_zero] at h0 h1
  exact ⟨h0, h1⟩

set_option maxRecDepth 100000 in
set_option maxHeartbeats 4000000 in
theorem GNew_in (A : Option Addr) (n c : Nat) (L : List Int) (fr : Int) (w : World) (h : SlK .i64 w A n L) (h1 : 1 ≤ n ∧ n ≤ 64) (h2 : 1 ≤ fr ∧ fr ≤ 256) :
    Calls Tryz.prog 19 #[.slice A n c, .int .i64 fr] w fun e w' => (e = .returned (.pointer none) ∧ Chg [] w w' ∧ ¬ OkL L fr) ∨ ∃ p S, e = .returned (.pointer (some ⟨p, 0, none⟩)) ∧ Chg [] w w' ∧ GAt w' S p L ∧ (∀ i ∈ S, w.heap.size ≤ i) ∧ OkL L fr := by
  have hlen := h.len
  have hwf := h.wf
  have HWF := Lib.hid hwf
  clear hwf
  have hmm : ∀ (w : World) (k : Int), (Instr.makeMap 97 (some (.int .i64 k))).run Tryz.prog w = .ok (.map (some w.heap.size)) (w.alloc (.map #[] 0)) := fun w k => rfl
  go_enter Tryz.func19, Tryz.ntmps19
  go_wp2_with fail
  go_region_with (go_at_call 46; refine (Clone_at A n c L _ ?_ (by omega)).mono ?_; (first | exact h.drew | exact h.chg ((Chg.refl [] w).drew.alloc _)); rintro e w1 ⟨v, rfl, hc1, ho1, hg1⟩; obtain ⟨gb, k1, rfl, hk1, hk2⟩ := ho1.pos_ (by omega))
  · subst hlen
    have hgz : w.heap.size ≤ gb := hg1 gb (by simp [Value.ownBlock])
    have hcw : Chg [] w w1 := (Chg.refl [] w).drew.trans hc1 (by simp)
    have hcy := (hcw.alloc (.map #[] 0)).alloc (Obj.cells #[Value.slice (some ⟨gb, 0, none⟩) L.length k1, Value.map (some w1.heap.size)] 99)
    have hbk := (ho1.alloc (.map #[] 0)).alloc (Obj.cells #[Value.slice (some ⟨gb, 0, none⟩) L.length k1, Value.map (some w1.heap.size)] 99)
    have hmp := (IntM.made w1 Tryz.prog 3 3).chg (T := []) ((Chg.refl [] _).alloc (Obj.cells #[Value.slice (some ⟨gb, 0, none⟩) L.length k1, Value.map (some w1.heap.size)] 99)) (by simp)
    have hst := Blk.new (w1.alloc (Obj.map #[] 0)) 99 #[Value.slice (some ⟨gb, 0, none⟩) L.length k1, Value.map (some w1.heap.size)]
    rw [show (w1.alloc (Obj.map #[] 0)).heap.size = w1.heap.size + 1 by simp] at hst
    have hpz : w.heap.size ≤ w1.heap.size + 1 := by have := hcw.size; omega
    have hmz : w.heap.size ≤ w1.heap.size := hcw.size
    clear hcw
    generalize (w1.alloc (Obj.map #[] 0)).alloc (Obj.cells #[Value.slice (some ⟨gb, 0, none⟩) L.length k1, Value.map (some w1.heap.size)] 99) = w3 at *
    generalize w1.heap.size + 1 = p at *
    generalize w1.heap.size = m at *
    clear hc1 ho1 hg1 hk1 h
    clear hmm
    have hmp0 : IntM Tryz.prog 3 3 w3 m 0 (locO (L.take 0)) := hmp.congr fun x => rfl
    have hpm : m ≠ p := hmp.blk_ne hst
    have hgp : gb ≠ p := by obtain ⟨cur, hb⟩ := hbk.blk (g := gb) (by simp [Value.ownBlock]); exact hb.type_ne hst (by decide)
    have hgm : m ≠ gb := by obtain ⟨cur, hb⟩ := hbk.blk (g := gb) (by simp [Value.ownBlock]); exact hmp.blk_ne hb
    obtain ⟨c0, c1⟩ := blkc2 hst
    go_wp2_with fail
    go_loopw [38] (fun i w' => ∃ k : Nat, k ≤ L.length ∧ i = .int .i64 k ∧ Chg [] w w' ∧ Blk w' p 99 #[.slice (some ⟨gb, 0, none⟩) L.length k1, .map (some m)] ∧ OwnI w' 3 .i64 (.slice (some ⟨gb, 0, none⟩) L.length k1) L ∧ IntM Tryz.prog 3 3 w' m k (locO (L.take k)) ∧ OkTo L fr k) (fun i _ => L.length - (intOf i).toNat)
    case atStart => exact ⟨0, by omega, rfl, hcy, hst, hbk, hmp0, by simp [OkTo]⟩
    case round =>
      clear hcy hst hbk hmp0 hmp c0 c1
      obtain ⟨k, hk, rfl, hcy, hst, hbk, hmp, hok⟩ := hrel
      obtain ⟨c0, c1⟩ := blkc2 hst
      by_cases hlt : k < L.length
      · have d := hbk.cell k hlt
        have hxw := getD_wf HWF.out k hlt
        obtain ⟨x, hx⟩ : ∃ x, L.getD k 0 = x := ⟨_, rfl⟩
        rw [hx] at d hxw
        have HX := Lib.hid hx
        have hkey := WalkArith.wf_i64 hxw
        clear hx
        cases hF : locO (L.take k) x with
        | some q =>
          have hbad : ¬ OkL L fr := by
            refine ok_bad hlt (.inr (.inr ?_))
            rw [HX.out, ← locO_some, hF]; rfl
          have HBAD := Lib.hid hbad
          clear hbad
          go_wp2_with (at_lookup; refine wpList_lookup_intM_some rfl _ _ 97 rfl lawI Tryz.underlying97 Tryz.underlying3 Tryz.underlying3 (zeroI _) m _ _ rfl hmp x rfl hkey q hF ?_)
          go_ret
          exact .inl ⟨rfl, hcy, HBAD.out⟩
        | none =>
          have hnot : (L.take k).contains x = false := by rw [← locO_some, hF]; rfl
          have HNOT := Lib.hid hnot
          clear hnot
          by_cases hx0 : x < 0
          · go_wp2_with (at_lookup; refine wpList_lookup_intM_none rfl _ _ 97 rfl lawI Tryz.underlying97 Tryz.underlying3 Tryz.underlying3 (zeroI _) m _ _ rfl hmp x rfl hkey hF ?_)
            go_ret
            exact .inl ⟨rfl, hcy, ok_bad hlt (.inl (by rw [HX.out]; exact hx0))⟩
          · by_cases hx1 : fr ≤ x
            · go_wp2_with (at_lookup; refine wpList_lookup_intM_none rfl _ _ 97 rfl lawI Tryz.underlying97 Tryz.underlying3 Tryz.underlying3 (zeroI _) m _ _ rfl hmp x rfl hkey hF ?_)
              go_ret
              exact .inl ⟨rfl, hcy, ok_bad hlt (.inr (.inl (by rw [HX.out]; exact hx1)))⟩
            · have hok' : OkTo L fr (k + 1) := hok.succ hlt (by rw [HX.out]; omega) (by rw [HX.out]; omega) (by rw [HX.out]; exact HNOT.out)
              have hkw : (Lit.int .i64 (k : Int)).wf = true := WalkArith.wf_i64 (by omega)
              go_wp2_with (first
                | (at_lookup; refine wpList_lookup_intM_none rfl _ _ 97 rfl lawI Tryz.underlying97 Tryz.underlying3 Tryz.underlying3 (zeroI _) m _ _ rfl hmp x rfl hkey hF ?_)
                | (at_mapUpdate; refine wpList_store_intM rfl _ _ _ 97 rfl lawI Tryz.underlying97 Tryz.underlying3 Tryz.underlying3 m _ _ rfl hmp (by simp [maxLen]; omega) x k rfl rfl hkey hkw ?_; intro w4 hmp4 hc4))
              go_roundw
              case rel =>
                refine ⟨k + 1, by omega, by go_num, hcy.trans hc4 (by intro i hi hm; simp at hm; omega), hc4.blk hst (by simp; omega), hbk.chg hc4 (by simpa [Value.ownBlock] using fun e => hgm e.symm), hmp4.congr fun y => ?_, hok'⟩
                rw [take_snoc L k hlt, HX.out, locO_snoc _ _ _ HNOT.out, List.length_take, Nat.min_eq_left hk]
              case measure => simp [intOf]; omega
      · obtain rfl : k = L.length := by omega
        go_wp2_with fail
        go_ret
        rw [List.take_length] at hmp
        unfold OkTo at hok
        rw [List.take_length] at hok
        refine .inr ⟨p, _, rfl, hcy, ⟨m, _, ⟨hst, hbk, hmp⟩, rfl, h1.1, h1.2, by omega, by omega, fun x hx => by have := hok.1 x hx; omega, hok.2⟩, ?_, h1.1, h1.2, h2.1, h2.2, hok.1, hok.2⟩
        intro i hi
        simp [Value.ownBlock] at hi
        rcases hi with rfl | rfl | rfl
        · exact hpz
        · exact hmz
        · exact hgz
  · subst hlen
    have hgz : w.heap.size ≤ gb := by have := hg1 gb (by simp [Value.ownBlock]); simp at this; omega
    have hcw : Chg [] w w1 := ((Chg.refl [] w).alloc (.map #[] 0)).drew.trans hc1 (by simp)
    have hcy := hcw.alloc (Obj.cells #[Value.slice (some ⟨gb, 0, none⟩) L.length k1, Value.map (some w.heap.size)] 99)
    have hbk := ho1.alloc (Obj.cells #[Value.slice (some ⟨gb, 0, none⟩) L.length k1, Value.map (some w.heap.size)] 99)
    have hmp := ((IntM.made w Tryz.prog 3 3).chg (T := []) ((Chg.refl [] _).drew.trans hc1 (by simp)) (by simp)).chg (T := []) ((Chg.refl [] _).alloc (Obj.cells #[Value.slice (some ⟨gb, 0, none⟩) L.length k1, Value.map (some w.heap.size)] 99)) (by simp)
    have hst := Blk.new w1 99 #[Value.slice (some ⟨gb, 0, none⟩) L.length k1, Value.map (some w.heap.size)]
    have hpz : w.heap.size ≤ w1.heap.size := hcw.size
    have hmz : w.heap.size ≤ w.heap.size := Nat.le_refl _
    clear hcw
    generalize w1.alloc (Obj.cells #[Value.slice (some ⟨gb, 0, none⟩) L.length k1, Value.map (some w.heap.size)] 99) = w3 at *
    generalize w1.heap.size = p at *
    generalize hmw : w.heap.size = m at hmp hst
    have HMW := Lib.hid hmw
    have hmz : w.heap.size ≤ m := by omega
    clear hmw
    clear hc1 ho1 hg1 hk1 h
    clear hmm
    have hmp0 : IntM Tryz.prog 3 3 w3 m 0 (locO (L.take 0)) := hmp.congr fun x => rfl
    have hpm : m ≠ p := hmp.blk_ne hst
    have hgp : gb ≠ p := by obtain ⟨cur, hb⟩ := hbk.blk (g := gb) (by simp [Value.ownBlock]); exact hb.type_ne hst (by decide)
    have hgm : m ≠ gb := by obtain ⟨cur, hb⟩ := hbk.blk (g := gb) (by simp [Value.ownBlock]); exact hmp.blk_ne hb
    obtain ⟨c0, c1⟩ := blkc2 hst
    go_wp2_with fail
    go_loopw [38] (fun i w' => ∃ k : Nat, k ≤ L.length ∧ i = .int .i64 k ∧ Chg [] w w' ∧ Blk w' p 99 #[.slice (some ⟨gb, 0, none⟩) L.length k1, .map (some m)] ∧ OwnI w' 3 .i64 (.slice (some ⟨gb, 0, none⟩) L.length k1) L ∧ IntM Tryz.prog 3 3 w' m k (locO (L.take k)) ∧ OkTo L fr k) (fun i _ => L.length - (intOf i).toNat)
    case atStart => exact ⟨0, by omega, rfl, hcy, hst, hbk, hmp0, by simp [OkTo]⟩
    case round =>
      clear hcy hst hbk hmp0 hmp c0 c1
      obtain ⟨k, hk, rfl, hcy, hst, hbk, hmp, hok⟩ := hrel
      obtain ⟨c0, c1⟩ := blkc2 hst
      by_cases hlt : k < L.length
      · have d := hbk.cell k hlt
        have hxw := getD_wf HWF.out k hlt
        obtain ⟨x, hx⟩ : ∃ x, L.getD k 0 = x := ⟨_, rfl⟩
        rw [hx] at d hxw
        have HX := Lib.hid hx
        have hkey := WalkArith.wf_i64 hxw
        clear hx
        cases hF : locO (L.take k) x with
        | some q =>
          have hbad : ¬ OkL L fr := by
            refine ok_bad hlt (.inr (.inr ?_))
            rw [HX.out, ← locO_some, hF]; rfl
          have HBAD := Lib.hid hbad
          clear hbad
          go_wp2_with (at_lookup; refine wpList_lookup_intM_some rfl _ _ 97 rfl lawI Tryz.underlying97 Tryz.underlying3 Tryz.underlying3 (zeroI _) m _ _ rfl hmp x rfl hkey q hF ?_)
          go_ret
          exact .inl ⟨rfl, hcy, HBAD.out⟩
        | none =>
          have hnot : (L.take k).contains x = false := by rw [← locO_some, hF]; rfl
          have HNOT := Lib.hid hnot
          clear hnot
          by_cases hx0 : x < 0
          · go_wp2_with (at_lookup; refine wpList_lookup_intM_none rfl _ _ 97 rfl lawI Tryz.underlying97 Tryz.underlying3 Tryz.underlying3 (zeroI _) m _ _ rfl hmp x rfl hkey hF ?_)
            go_ret
            exact .inl ⟨rfl, hcy, ok_bad hlt (.inl (by rw [HX.out]; exact hx0))⟩
          · by_cases hx1 : fr ≤ x
            · go_wp2_with (at_lookup; refine wpList_lookup_intM_none rfl _ _ 97 rfl lawI Tryz.underlying97 Tryz.underlying3 Tryz.underlying3 (zeroI _) m _ _ rfl hmp x rfl hkey hF ?_)
              go_ret
              exact .inl ⟨rfl, hcy, ok_bad hlt (.inr (.inl (by rw [HX.out]; exact hx1)))⟩
            · have hok' : OkTo L fr (k + 1) := hok.succ hlt (by rw [HX.out]; omega) (by rw [HX.out]; omega) (by rw [HX.out]; exact HNOT.out)
              have hkw : (Lit.int .i64 (k : Int)).wf = true := WalkArith.wf_i64 (by omega)
              go_wp2_with (first
                | (at_lookup; refine wpList_lookup_intM_none rfl _ _ 97 rfl lawI Tryz.underlying97 Tryz.underlying3 Tryz.underlying3 (zeroI _) m _ _ rfl hmp x rfl hkey hF ?_)
                | (at_mapUpdate; refine wpList_store_intM rfl _ _ _ 97 rfl lawI Tryz.underlying97 Tryz.underlying3 Tryz.underlying3 m _ _ rfl hmp (by simp [maxLen]; omega) x k rfl rfl hkey hkw ?_; intro w4 hmp4 hc4))
              go_roundw
              case rel =>
                refine ⟨k + 1, by omega, by go_num, hcy.trans hc4 (by intro i hi hm; simp at hm; omega), hc4.blk hst (by simp; omega), hbk.chg hc4 (by simpa [Value.ownBlock] using fun e => hgm e.symm), hmp4.congr fun y => ?_, hok'⟩
                rw [take_snoc L k hlt, HX.out, locO_snoc _ _ _ HNOT.out, List.length_take, Nat.min_eq_left hk]
              case measure => simp [intOf]; omega
      · obtain rfl : k = L.length := by omega
        go_wp2_with fail
        go_ret
        rw [List.take_length] at hmp
        unfold OkTo at hok
        rw [List.take_length] at hok
        refine .inr ⟨p, _, rfl, hcy, ⟨m, _, ⟨hst, hbk, hmp⟩, rfl, h1.1, h1.2, by omega, by omega, fun x hx => by have := hok.1 x hx; omega, hok.2⟩, ?_, h1.1, h1.2, h2.1, h2.2, hok.1, hok.2⟩
        intro i hi
        simp [Value.ownBlock] at hi
        rcases hi with rfl | rfl | rfl
        · exact hpz
        · exact hmz
        · exact hgz

end Go.Proofs.YtdfmlodmaipnkaaGreatDoor
