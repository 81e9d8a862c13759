/-
  The contracts of package store's New, Clear, Child, Leaf.
-/
import Derived.Test.YtpmfooeifhhfkaaStoreI
namespace Go.Proofs.Ytpmfooeifhhfkaa
open Go.RowKit Go.Maps

/-- may there be a store of so many frames from one on, in a host of n frames? -/
def snewB (n : Nat) (a m : Int) : Bool := decide (0 ≤ a ∧ 0 ≤ m ∧ a + m ≤ 256 ∧ a + m ≤ n)
theorem SrOk.new {n a m : Nat} {W : List Int} (h : a + m ≤ n) (hn : n ≤ 256) (hW : W.length = 8 * n) : SrOk n a m ⟨[], dnk a m, W⟩ :=
  ⟨h, hn, hW, by simpa using dnk_nodup a m, fun f hf => by simp at hf; exact (mem_dnk a f m).1 hf, by simp [dnk_len], by simp, by simp, by simp, by simp, by simp⟩

set_option maxRecDepth 100000 in
set_option maxHeartbeats 2000000 in
theorem Snew_no (hp hb n : Nat) (W : List Int) (a m : Int) (w : World) (hM : MemAt w hp hb n W) (hm : -9223372036854775808 ≤ m ∧ m ≤ 9223372036854775807) (ha : -9223372036854775808 ≤ a ∧ a ≤ 9223372036854775807) (hB : snewB n a m = false) :
    Calls Try.prog 13 #[.pointer (some ⟨hp, 0, none⟩), .int .i64 a, .int .i64 m] w fun e w' => e = .returned (.pointer none) ∧ Chg [] w w' := by
  unfold snewB at hB
  rw [decide_eq_false_iff_not] at hB
  by_cases h1 : a < 0 ∨ m < 0 ∨ 256 < a + m
  · have hF := FNew_no a m w hm h1
    clear hB h1 hM
    go_enter Try.func13, Try.ntmps13
    go_wp2_with fail
    refine hF.mono ?_; rintro e w2 ⟨rfl, hw⟩
    go_wp2_with fail
    go_ret
    exact ⟨rfl, by first | (subst hw; exact Chg.refl _ _) | exact hw⟩
  · obtain ⟨A, rfl⟩ := Int.eq_ofNat_of_zero_le (show 0 ≤ a by omega)
    obtain ⟨M, rfl⟩ := Int.eq_ofNat_of_zero_le (show 0 ≤ m by omega)
    have hF := FNew_at A M w (by omega)
    have hgt : (n : Int) < (A : Int) + M := by omega
    have hsum : wrap64 ((A : Int) + M) = (A : Int) + M := by unfold wrap64; omega
    have hFr := fun w' (y : Chg [] w w') => Frames_at hp hb n W w' ⟨hM.st.chg_ y (by simp), hM.ws.chg_ y (by simp), hM.len, hM.pos, hM.le⟩
    have hd : decide ((A : Int) + M > n) = true := by simpa using hgt
    clear hB h1 hM
    go_enter Try.func13, Try.ntmps13
    go_wp2_with fail
    refine hF.mono ?_; rintro e w2 ⟨p, S, rfl, y, _⟩
    go_wp2_with fail
    refine (hFr _ y).mono ?_; rintro e w3 ⟨rfl, rfl⟩
    go_wp2_with fail
    go_ret
    exact ⟨rfl, y⟩

set_option maxRecDepth 100000 in
set_option maxHeartbeats 2000000 in
theorem Snew_yes (hp hb n : Nat) (W : List Int) (a m : Nat) (w : World) (hM : MemAt w hp hb n W) (hB : a + m ≤ n) :
    Calls Try.prog 13 #[.pointer (some ⟨hp, 0, none⟩), .int .i64 a, .int .i64 m] w fun e w' => ∃ q S, e = .returned (.pointer (some ⟨q, 0, none⟩)) ∧ StIn w' S q hp hb n a m ⟨[], dnk a m, W⟩ ∧ SrOk n a m ⟨[], dnk a m, W⟩ ∧ Chg [] w w' ∧ ∀ i ∈ S, w.heap.size ≤ i := by
  have hn := hM.le
  have hF := FNew_at a m w (by omega)
  have hgt : ¬ (n : Int) < (a : Int) + m := by omega
  have hsum : wrap64 ((a : Int) + m) = (a : Int) + m := by unfold wrap64; omega
  have hFr := fun w' (y : Chg [] w w') => Frames_at hp hb n W w' ⟨hM.st.chg_ y (by simp), hM.ws.chg_ y (by simp), hM.len, hM.pos, hM.le⟩
  have hd : decide ((a : Int) + m > n) = false := by simp; omega
  have HM := Lib.hid hM
  have HB := Lib.hid hB
  have hmm := @run_makeMap Try.prog
  clear hM hB
  go_enter Try.func13, Try.ntmps13
  go_wp2_with fail
  refine hF.mono ?_; rintro e w2 ⟨p, FS, rfl, y, hfl, hnew⟩
  go_wp2_with fail
  refine (hFr _ y).mono ?_; rintro e w3 ⟨rfl, rfl⟩
  go_wp2_with fail
  go_ret
  have y1 : Chg [] w (w2.alloc (.map #[] 0)) := y.alloc _
  have y2 := y1.alloc (.cells #[.pointer (some ⟨hp, 0, none⟩), .pointer (some ⟨p, 0, none⟩), .map (some w2.heap.size), .slice none 0 0] 90)
  have hz2 : (w2.alloc (.map #[] 0)).heap.size = w2.heap.size + 1 := by simp
  have hlt := hfl.lt
  have h0 := y.size
  have m1 := HM.out.st.lt; have m2 := HM.out.ws.lt
  have f1 : Chg [] w2 ((w2.alloc (.map #[] 0)).alloc (.cells #[.pointer (some ⟨hp, 0, none⟩), .pointer (some ⟨p, 0, none⟩), .map (some w2.heap.size), .slice none 0 0] 90)) := ((Chg.refl [] w2).alloc _).alloc _
  refine ⟨_, _, rfl, ⟨p, w2.heap.size, FS, .slice none 0 0, [], ⟨?_, hfl.chg f1 (by simp), ?_, OwnI.none_ _ _ _, rfl, by simp, by simp, ⟨HM.out.st.chg_ y2 (by simp), HM.out.ws.chg_ y2 (by simp), HM.out.len, HM.out.pos, HM.out.le⟩, by simp, by simp, by simp, ⟨fun hm => ?_, fun hm => ?_, by simp [Value.ownBlock], by simp⟩, fun hm => ?_, fun hm => ?_⟩, rfl⟩, SrOk.new HB.out hn HM.out.len, y2, ?_⟩
  · have := Blk.new (w2.alloc (.map #[] 0)) 90 #[.pointer (some ⟨hp, 0, none⟩), .pointer (some ⟨p, 0, none⟩), .map (some w2.heap.size), .slice none 0 0]
    rw [hz2] at this
    exact this
  · exact ((PtrM.made w2 Try.prog 3).chg ((Chg.refl [] _).alloc _) (by simp)).congr fun _ => rfl
  · have := hlt _ hm; omega
  · have := hlt _ hm; omega
  · have := hnew _ hm; omega
  · have := hnew _ hm; omega
  · intro i hi
    simp only [stS, Value.ownBlock, Option.toList_none, List.nil_append, List.append_nil, List.mem_cons] at hi
    rcases hi with rfl | rfl | hi
    · omega
    · exact h0
    · exact hnew i hi

section
variable {q hp hb n a m fp mp : Nat} {s : Sr} {FS B : List Nat} {v : Value}
set_option maxRecDepth 100000 in
set_option maxHeartbeats 2000000 in
theorem Sclear_any (p i : Int) (w : World) (h : StX w q hp hb n a m s fp mp FS v B) (hp' : -9223372036854775808 ≤ p ∧ p ≤ 9223372036854775807) :
    Calls Try.prog 43 #[.pointer (some ⟨q, 0, none⟩), .int .i64 p, .int .i64 i] w fun e w' => e = .returned (.bool (clearB s p i)) ∧ StX w' q hp hb n a m (clearS n s p i) fp mp FS v B ∧ Chg (hb :: B) w w' := by
  have hS := Sslot_any p i w h hp'
  unfold slotV at hS
  cases e : slotP s.L p i with
  | none =>
    have hc : clearB s p i = false := by unfold clearB; rw [e]
    have hcs : clearS n s p i = s := by unfold clearS; rw [hc]; rfl
    rw [hcs, hc]
    rw [e] at hS
    simp only [Option.getD_none, Option.isSome_none, Slt.cl, Slt.no] at hS
    clear e hc hcs
    go_enter Try.func43, Try.ntmps43
    go_wp2_with fail
    refine hS.mono ?_; rintro e w2 ⟨rfl, y⟩
    clear hS
    go_wp2_with fail
    go_ret
    exact ⟨rfl, h.new (y.alloc _), (y.alloc _).weak (by simp)⟩
  | some x =>
    have hs := slot_hasS e
    have hlay := fun w' (y : Chg [] w w') => Slay_any p i Slt.no 0 w' (h.new y) hs
    rw [e] at hS
    simp only [Option.getD_some, Option.isSome_some, Slt.cl, Slt.no] at hS hlay
    by_cases hk : x.kind = 0
    · have hc : clearB s p i = false := by unfold clearB; rw [e]; simp [hk]
      have hcs : clearS n s p i = s := by unfold clearS; rw [hc]; rfl
      rw [hcs, hc]
      have hkb : (x.kind == 0) = true := by simpa using hk
      clear e hc hcs hlay hk
      go_enter Try.func43, Try.ntmps43
      go_wp2_with fail
      refine hS.mono ?_; rintro e w2 ⟨rfl, y⟩
      clear hS
      go_wp2_with fail
      go_ret
      exact ⟨rfl, h.new (y.alloc _), (y.alloc _).weak (by simp)⟩
    · have hc : clearB s p i = true := by unfold clearB; rw [e]; simp [hk]
      have hcs : clearS n s p i = setS n s p i Slt.no 0 := by unfold clearS; rw [hc]; rfl
      rw [hcs, hc]
      have hkb : (x.kind == 0) = false := by simpa using hk
      clear e hc hcs hk
      go_enter Try.func43, Try.ntmps43
      go_wp2_with fail
      refine hS.mono ?_; rintro e w2 ⟨rfl, y⟩
      clear hS
      go_wp2_with fail
      refine (hlay _ (y.alloc _)).mono ?_; rintro e w3 ⟨rfl, h3, y3⟩
      clear hlay
      go_wp2_with fail
      go_ret
      exact ⟨rfl, h3, ((y.alloc _).weak (by simp)).trans y3 (fun _ _ hm => hm)⟩

set_option maxRecDepth 100000 in
set_option maxHeartbeats 4000000 in
theorem Schild_any (p i c : Int) (r : Rg) (w : World) (h : StX w q hp hb n a m s fp mp FS v B) (hok : SrOk n a m s) (hp' : -9223372036854775808 ≤ p ∧ p ≤ 9223372036854775807) (hc' : -9223372036854775808 ≤ c ∧ c ≤ 9223372036854775807) :
    Calls Try.prog 44 #[.pointer (some ⟨q, 0, none⟩), .int .i64 p, .int .i64 i, .int .i64 c, .agg r.cs] w fun e w' => e = .returned (.bool (childB s p i c)) ∧ StX w' q hp hb n a m (childS n s p i c r) fp mp FS v B ∧ Chg (hb :: B) w w' := by
  have hcB : childB s p i c = (hasS s p i && (pgAt s.L c).isSome && decide (levP s.L c = levP s.L p - 1)) := rfl
  have hcS : childS n s p i c r = if childB s p i c then setS n s p i ⟨1, c, r⟩ c else s := rfl
  obtain ⟨rw_, ru, rx⟩ := r
  simp only [Rg.cs] at *
  have y0 := (Chg.refl [] w).alloc (.cells #[.bool rw_, .bool ru, .bool rx] 37)
  have r0 := Blk.new w 37 #[.bool rw_, .bool ru, .bool rx]
  have h1 := h.new y0
  have hHas := fun w' (y : Chg [] w w') => Shas_any p i w' (h.new y) hp'
  have hlay := fun (hs : hasS s p i = true) w' (y : Chg [] w w') => Slay_any p i ⟨1, c, ⟨rw_, ru, rx⟩⟩ c w' (h.new y) hs
  simp only [Slt.cl] at hlay
  obtain ⟨c0, c1, c2, c3⟩ := h1.c4
  have hLc := h1.look c hc'
  have hFc := blkF_none (f := c) h.bl
  generalize hW1 : w.alloc (.cells #[.bool rw_, .bool ru, .bool rx] 37) = w1 at *
  cases hz : hasS s p i with
  | false =>
    rw [hz] at hcB hHas
    simp only [Bool.false_and] at hcB
    rw [hcB] at hcS
    simp only [Bool.false_eq_true, if_false] at hcS
    rw [hcB, hcS]
    clear hlay
    cases hcp : blkF s.L B c with
    | none =>
      rw [hcp] at hLc
      simp only [ptrO] at hLc
      go_enter Try.func44, Try.ntmps44
      go_wp2_with fail
      refine wp_region_noPanic ?_
      refine wp_region_held_drew (S := (fun w' => Chg [] w1 w')) (by kernel_rfl) ?_ (fun hHeld => ?_)
      · exact ((Chg.refl [] w1).drew)
      (refine take_on 0 (some 18) (v := ?_) rfl rfl (by kernel_rfl) (by kernel_rfl) (by kernel_rfl) (fun _ _ _ h => h) (by rfl) (by assumption) ?_ ?_; rotate_left; · (intro w hSw; go_simp; (try with_reducible rfl)))
      (try simp only [Act.put, List.setIfInBounds_toArray, List.set_cons_zero, List.set_cons_succ])
      (refine take_on 1 (some 19) (v := ?_) rfl rfl (by kernel_rfl) (by kernel_rfl) (by kernel_rfl) (fun _ _ _ h => h) (by rfl) (by assumption) ?_ ?_; rotate_left; · (intro w hSw; go_simp; (try with_reducible rfl)))
      (try simp only [Act.put, List.setIfInBounds_toArray, List.set_cons_zero, List.set_cons_succ])
      (refine take_on 2 (some 20) (v := ?_) rfl rfl (by kernel_rfl) (by kernel_rfl) (by kernel_rfl) (fun _ _ _ h => h) (by rfl) (by assumption) ?_ ?_; rotate_left; · (intro w hSw; go_simp; (try with_reducible rfl)))
      (try simp only [Act.put, List.setIfInBounds_toArray, List.set_cons_zero, List.set_cons_succ])
      refine wpAnyH_ready (rs := [3]) (by kernel_rfl) (by simp) ?_; refine AllReadyH.cons (o := _) rfl (fun K hK => ?_) AllReadyH.nil
      go_simp
      (go_at_call 57; refine (hHas _ (y0.trans hHeld (by simp))).mono ?_; rintro e u1 ⟨rfl, rfl⟩)
      refine hK.out _ _ (by (try dsimp only); exact hHeld) (fun hHeld => ?_)
      clear hK K
      (try simp only [Act.put, List.setIfInBounds_toArray, List.set_cons_zero, List.set_cons_succ])
      (refine take_on 4 (some 22) (v := ?_) rfl rfl (by kernel_rfl) (by kernel_rfl) (by kernel_rfl) (fun _ _ _ h => h) (by rfl) (by assumption) ?_ ?_; rotate_left; · (intro w hSw; go_simp; (try with_reducible rfl)))
      (try simp only [Act.put, List.setIfInBounds_toArray, List.set_cons_zero, List.set_cons_succ])
      (refine take_on 5 (some 23) (v := ?_) rfl rfl (by kernel_rfl) (by kernel_rfl) (by kernel_rfl) (fun _ _ _ h => h) (by rfl) (by assumption) ?_ ?_; rotate_left; · (intro w hSw; go_simp; (try with_reducible rfl)))
      (try simp only [Act.put, List.setIfInBounds_toArray, List.set_cons_zero, List.set_cons_succ])
      (refine take_off 6 (some 24) rfl rfl (by kernel_rfl) (by kernel_rfl) (by kernel_rfl) (fun _ _ _ h => h) (by rfl) (by assumption) ?_)
      (try simp only [Act.put, List.setIfInBounds_toArray, List.set_cons_zero, List.set_cons_succ])
      (refine take_off 7 (some 25) rfl rfl (by kernel_rfl) (by kernel_rfl) (by kernel_rfl) (fun _ _ _ h => h) (by rfl) (by assumption) ?_)
      (try simp only [Act.put, List.setIfInBounds_toArray, List.set_cons_zero, List.set_cons_succ])
      (refine take_on 8 (some 26) (v := ?_) rfl rfl (by kernel_rfl) (by kernel_rfl) (by kernel_rfl) (fun _ _ _ h => h) (by rfl) (by assumption) ?_ ?_; rotate_left; · (intro w hSw; go_simp; (try with_reducible rfl)))
      (try simp only [Act.put, List.setIfInBounds_toArray, List.set_cons_zero, List.set_cons_succ])
      (refine take_on 9 (some 27) (v := ?_) rfl rfl (by kernel_rfl) (by kernel_rfl) (by kernel_rfl) (fun _ _ _ h => h) (by rfl) (by assumption) ?_ ?_; rotate_left; · (intro w hSw; go_simp; (try with_reducible rfl)))
      (try simp only [Act.put, List.setIfInBounds_toArray, List.set_cons_zero, List.set_cons_succ])
      (refine take_off 10 (some 28) rfl rfl (by kernel_rfl) (by kernel_rfl) (by kernel_rfl) (fun _ _ _ h => h) (by rfl) (by assumption) ?_)
      (try simp only [Act.put, List.setIfInBounds_toArray, List.set_cons_zero, List.set_cons_succ])
      (refine take_off 11 (some 29) rfl rfl (by kernel_rfl) (by kernel_rfl) (by kernel_rfl) (fun _ _ _ h => h) (by rfl) (by assumption) ?_)
      (try simp only [Act.put, List.setIfInBounds_toArray, List.set_cons_zero, List.set_cons_succ])
      (refine take_off 12 (some 30) rfl rfl (by kernel_rfl) (by kernel_rfl) (by kernel_rfl) (fun _ _ _ h => h) (by rfl) (by assumption) ?_)
      (try simp only [Act.put, List.setIfInBounds_toArray, List.set_cons_zero, List.set_cons_succ])
      (refine take_off 13 (some 31) rfl rfl (by kernel_rfl) (by kernel_rfl) (by kernel_rfl) (fun _ _ _ h => h) (by rfl) (by assumption) ?_)
      (try simp only [Act.put, List.setIfInBounds_toArray, List.set_cons_zero, List.set_cons_succ])
      (refine take_off 14 (some 32) rfl rfl (by kernel_rfl) (by kernel_rfl) (by kernel_rfl) (fun _ _ _ h => h) (by rfl) (by assumption) ?_)
      (try simp only [Act.put, List.setIfInBounds_toArray, List.set_cons_zero, List.set_cons_succ])
      (refine take_off 15 (some 33) rfl rfl (by kernel_rfl) (by kernel_rfl) (by kernel_rfl) (fun _ _ _ h => h) (by rfl) (by assumption) ?_)
      (try simp only [Act.put, List.setIfInBounds_toArray, List.set_cons_zero, List.set_cons_succ])
      (refine take_off 16 (some 34) rfl rfl (by kernel_rfl) (by kernel_rfl) (by kernel_rfl) (fun _ _ _ h => h) (by rfl) (by assumption) ?_)
      (try simp only [Act.put, List.setIfInBounds_toArray, List.set_cons_zero, List.set_cons_succ])
      (refine take_off 17 (some 35) rfl rfl (by kernel_rfl) (by kernel_rfl) (by kernel_rfl) (fun _ _ _ h => h) (by rfl) (by assumption) ?_)
      (try simp only [Act.put, List.setIfInBounds_toArray, List.set_cons_zero, List.set_cons_succ])
      (refine take_off 18 (some 36) rfl rfl (by kernel_rfl) (by kernel_rfl) (by kernel_rfl) (fun _ _ _ h => h) (by rfl) (by assumption) ?_)
      (try simp only [Act.put, List.setIfInBounds_toArray, List.set_cons_zero, List.set_cons_succ])
      (refine take_off 19 (some 37) rfl rfl (by kernel_rfl) (by kernel_rfl) (by kernel_rfl) (fun _ _ _ h => h) (by rfl) (by assumption) ?_)
      (try simp only [Act.put, List.setIfInBounds_toArray, List.set_cons_zero, List.set_cons_succ])
      (refine take_off 20 (some 38) rfl rfl (by kernel_rfl) (by kernel_rfl) (by kernel_rfl) (fun _ _ _ h => h) (by rfl) (by assumption) ?_)
      (try simp only [Act.put, List.setIfInBounds_toArray, List.set_cons_zero, List.set_cons_succ])
      (refine take_off 21 (some 39) rfl rfl (by kernel_rfl) (by kernel_rfl) (by kernel_rfl) (fun _ _ _ h => h) (by rfl) (by assumption) ?_)
      (try simp only [Act.put, List.setIfInBounds_toArray, List.set_cons_zero, List.set_cons_succ])
      (refine take_off 22 (some 40) rfl rfl (by kernel_rfl) (by kernel_rfl) (by kernel_rfl) (fun _ _ _ h => h) (by rfl) (by assumption) ?_)
      (try simp only [Act.put, List.setIfInBounds_toArray, List.set_cons_zero, List.set_cons_succ])
      (refine take_off 23 (some 41) rfl rfl (by kernel_rfl) (by kernel_rfl) (by kernel_rfl) (fun _ _ _ h => h) (by rfl) (by assumption) ?_)
      (try simp only [Act.put, List.setIfInBounds_toArray, List.set_cons_zero, List.set_cons_succ])
      (refine take_off 24 (some 42) rfl rfl (by kernel_rfl) (by kernel_rfl) (by kernel_rfl) (fun _ _ _ h => h) (by rfl) (by assumption) ?_)
      (try simp only [Act.put, List.setIfInBounds_toArray, List.set_cons_zero, List.set_cons_succ])
      (refine take_off 25 (some 43) rfl rfl (by kernel_rfl) (by kernel_rfl) (by kernel_rfl) (fun _ _ _ h => h) (by rfl) (by assumption) ?_)
      (try simp only [Act.put, List.setIfInBounds_toArray, List.set_cons_zero, List.set_cons_succ])
      (refine take_off 26 (some 44) rfl rfl (by kernel_rfl) (by kernel_rfl) (by kernel_rfl) (fun _ _ _ h => h) (by rfl) (by assumption) ?_)
      (try simp only [Act.put, List.setIfInBounds_toArray, List.set_cons_zero, List.set_cons_succ])
      (refine take_on 27 (some 45) (v := ?_) rfl rfl (by kernel_rfl) (by kernel_rfl) (by kernel_rfl) (fun _ _ _ h => h) (by rfl) (by assumption) ?_ ?_; rotate_left; · (intro w hSw; go_simp; (try with_reducible rfl)))
      (try simp only [Act.put, List.setIfInBounds_toArray, List.set_cons_zero, List.set_cons_succ])
      refine wpAnyH_done (by kernel_rfl) ?_ _
      refine NoPanic.normal ?_
      go_wp2_with fail
      go_ret
      exact ⟨rfl, h1.new ((Chg.refl [] w1).drew), y0.drew.weak (by simp)⟩
    | some cb =>
      rw [hcp] at hLc
      simp only [ptrO] at hLc
      go_enter Try.func44, Try.ntmps44
      go_wp2_with fail
      refine wp_region_noPanic ?_
      refine wp_region_held_drew (S := (fun w' => Chg [] w1 w')) (by kernel_rfl) ?_ (fun hHeld => ?_)
      · exact ((Chg.refl [] w1).drew)
      (refine take_on 0 (some 18) (v := ?_) rfl rfl (by kernel_rfl) (by kernel_rfl) (by kernel_rfl) (fun _ _ _ h => h) (by rfl) (by assumption) ?_ ?_; rotate_left; · (intro w hSw; go_simp; (try with_reducible rfl)))
      (try simp only [Act.put, List.setIfInBounds_toArray, List.set_cons_zero, List.set_cons_succ])
      (refine take_on 1 (some 19) (v := ?_) rfl rfl (by kernel_rfl) (by kernel_rfl) (by kernel_rfl) (fun _ _ _ h => h) (by rfl) (by assumption) ?_ ?_; rotate_left; · (intro w hSw; go_simp; (try with_reducible rfl)))
      (try simp only [Act.put, List.setIfInBounds_toArray, List.set_cons_zero, List.set_cons_succ])
      (refine take_on 2 (some 20) (v := ?_) rfl rfl (by kernel_rfl) (by kernel_rfl) (by kernel_rfl) (fun _ _ _ h => h) (by rfl) (by assumption) ?_ ?_; rotate_left; · (intro w hSw; go_simp; (try with_reducible rfl)))
      (try simp only [Act.put, List.setIfInBounds_toArray, List.set_cons_zero, List.set_cons_succ])
      refine wpAnyH_ready (rs := [3]) (by kernel_rfl) (by simp) ?_; refine AllReadyH.cons (o := _) rfl (fun K hK => ?_) AllReadyH.nil
      go_simp
      (go_at_call 57; refine (hHas _ (y0.trans hHeld (by simp))).mono ?_; rintro e u1 ⟨rfl, rfl⟩)
      refine hK.out _ _ (by (try dsimp only); exact hHeld) (fun hHeld => ?_)
      clear hK K
      (try simp only [Act.put, List.setIfInBounds_toArray, List.set_cons_zero, List.set_cons_succ])
      (refine take_on 4 (some 22) (v := ?_) rfl rfl (by kernel_rfl) (by kernel_rfl) (by kernel_rfl) (fun _ _ _ h => h) (by rfl) (by assumption) ?_ ?_; rotate_left; · (intro w hSw; go_simp; (try with_reducible rfl)))
      (try simp only [Act.put, List.setIfInBounds_toArray, List.set_cons_zero, List.set_cons_succ])
      (refine take_on 5 (some 23) (v := ?_) rfl rfl (by kernel_rfl) (by kernel_rfl) (by kernel_rfl) (fun _ _ _ h => h) (by rfl) (by assumption) ?_ ?_; rotate_left; · (intro w hSw; go_simp; (try with_reducible rfl)))
      (try simp only [Act.put, List.setIfInBounds_toArray, List.set_cons_zero, List.set_cons_succ])
      (refine take_off 6 (some 24) rfl rfl (by kernel_rfl) (by kernel_rfl) (by kernel_rfl) (fun _ _ _ h => h) (by rfl) (by assumption) ?_)
      (try simp only [Act.put, List.setIfInBounds_toArray, List.set_cons_zero, List.set_cons_succ])
      (refine take_off 7 (some 25) rfl rfl (by kernel_rfl) (by kernel_rfl) (by kernel_rfl) (fun _ _ _ h => h) (by rfl) (by assumption) ?_)
      (try simp only [Act.put, List.setIfInBounds_toArray, List.set_cons_zero, List.set_cons_succ])
      (refine take_on 8 (some 26) (v := ?_) rfl rfl (by kernel_rfl) (by kernel_rfl) (by kernel_rfl) (fun _ _ _ h => h) (by rfl) (by assumption) ?_ ?_; rotate_left; · (intro w hSw; go_simp; (try with_reducible rfl)))
      (try simp only [Act.put, List.setIfInBounds_toArray, List.set_cons_zero, List.set_cons_succ])
      (refine take_on 9 (some 27) (v := ?_) rfl rfl (by kernel_rfl) (by kernel_rfl) (by kernel_rfl) (fun _ _ _ h => h) (by rfl) (by assumption) ?_ ?_; rotate_left; · (intro w hSw; go_simp; (try with_reducible rfl)))
      (try simp only [Act.put, List.setIfInBounds_toArray, List.set_cons_zero, List.set_cons_succ])
      (refine take_off 10 (some 28) rfl rfl (by kernel_rfl) (by kernel_rfl) (by kernel_rfl) (fun _ _ _ h => h) (by rfl) (by assumption) ?_)
      (try simp only [Act.put, List.setIfInBounds_toArray, List.set_cons_zero, List.set_cons_succ])
      (refine take_off 11 (some 29) rfl rfl (by kernel_rfl) (by kernel_rfl) (by kernel_rfl) (fun _ _ _ h => h) (by rfl) (by assumption) ?_)
      (try simp only [Act.put, List.setIfInBounds_toArray, List.set_cons_zero, List.set_cons_succ])
      (refine take_off 12 (some 30) rfl rfl (by kernel_rfl) (by kernel_rfl) (by kernel_rfl) (fun _ _ _ h => h) (by rfl) (by assumption) ?_)
      (try simp only [Act.put, List.setIfInBounds_toArray, List.set_cons_zero, List.set_cons_succ])
      (refine take_off 13 (some 31) rfl rfl (by kernel_rfl) (by kernel_rfl) (by kernel_rfl) (fun _ _ _ h => h) (by rfl) (by assumption) ?_)
      (try simp only [Act.put, List.setIfInBounds_toArray, List.set_cons_zero, List.set_cons_succ])
      (refine take_off 14 (some 32) rfl rfl (by kernel_rfl) (by kernel_rfl) (by kernel_rfl) (fun _ _ _ h => h) (by rfl) (by assumption) ?_)
      (try simp only [Act.put, List.setIfInBounds_toArray, List.set_cons_zero, List.set_cons_succ])
      (refine take_off 15 (some 33) rfl rfl (by kernel_rfl) (by kernel_rfl) (by kernel_rfl) (fun _ _ _ h => h) (by rfl) (by assumption) ?_)
      (try simp only [Act.put, List.setIfInBounds_toArray, List.set_cons_zero, List.set_cons_succ])
      (refine take_off 16 (some 34) rfl rfl (by kernel_rfl) (by kernel_rfl) (by kernel_rfl) (fun _ _ _ h => h) (by rfl) (by assumption) ?_)
      (try simp only [Act.put, List.setIfInBounds_toArray, List.set_cons_zero, List.set_cons_succ])
      (refine take_off 17 (some 35) rfl rfl (by kernel_rfl) (by kernel_rfl) (by kernel_rfl) (fun _ _ _ h => h) (by rfl) (by assumption) ?_)
      (try simp only [Act.put, List.setIfInBounds_toArray, List.set_cons_zero, List.set_cons_succ])
      (refine take_off 18 (some 36) rfl rfl (by kernel_rfl) (by kernel_rfl) (by kernel_rfl) (fun _ _ _ h => h) (by rfl) (by assumption) ?_)
      (try simp only [Act.put, List.setIfInBounds_toArray, List.set_cons_zero, List.set_cons_succ])
      (refine take_off 19 (some 37) rfl rfl (by kernel_rfl) (by kernel_rfl) (by kernel_rfl) (fun _ _ _ h => h) (by rfl) (by assumption) ?_)
      (try simp only [Act.put, List.setIfInBounds_toArray, List.set_cons_zero, List.set_cons_succ])
      (refine take_off 20 (some 38) rfl rfl (by kernel_rfl) (by kernel_rfl) (by kernel_rfl) (fun _ _ _ h => h) (by rfl) (by assumption) ?_)
      (try simp only [Act.put, List.setIfInBounds_toArray, List.set_cons_zero, List.set_cons_succ])
      (refine take_off 21 (some 39) rfl rfl (by kernel_rfl) (by kernel_rfl) (by kernel_rfl) (fun _ _ _ h => h) (by rfl) (by assumption) ?_)
      (try simp only [Act.put, List.setIfInBounds_toArray, List.set_cons_zero, List.set_cons_succ])
      (refine take_off 22 (some 40) rfl rfl (by kernel_rfl) (by kernel_rfl) (by kernel_rfl) (fun _ _ _ h => h) (by rfl) (by assumption) ?_)
      (try simp only [Act.put, List.setIfInBounds_toArray, List.set_cons_zero, List.set_cons_succ])
      (refine take_off 23 (some 41) rfl rfl (by kernel_rfl) (by kernel_rfl) (by kernel_rfl) (fun _ _ _ h => h) (by rfl) (by assumption) ?_)
      (try simp only [Act.put, List.setIfInBounds_toArray, List.set_cons_zero, List.set_cons_succ])
      (refine take_off 24 (some 42) rfl rfl (by kernel_rfl) (by kernel_rfl) (by kernel_rfl) (fun _ _ _ h => h) (by rfl) (by assumption) ?_)
      (try simp only [Act.put, List.setIfInBounds_toArray, List.set_cons_zero, List.set_cons_succ])
      (refine take_off 25 (some 43) rfl rfl (by kernel_rfl) (by kernel_rfl) (by kernel_rfl) (fun _ _ _ h => h) (by rfl) (by assumption) ?_)
      (try simp only [Act.put, List.setIfInBounds_toArray, List.set_cons_zero, List.set_cons_succ])
      (refine take_off 26 (some 44) rfl rfl (by kernel_rfl) (by kernel_rfl) (by kernel_rfl) (fun _ _ _ h => h) (by rfl) (by assumption) ?_)
      (try simp only [Act.put, List.setIfInBounds_toArray, List.set_cons_zero, List.set_cons_succ])
      (refine take_on 27 (some 45) (v := ?_) rfl rfl (by kernel_rfl) (by kernel_rfl) (by kernel_rfl) (fun _ _ _ h => h) (by rfl) (by assumption) ?_ ?_; rotate_left; · (intro w hSw; go_simp; (try with_reducible rfl)))
      (try simp only [Act.put, List.setIfInBounds_toArray, List.set_cons_zero, List.set_cons_succ])
      refine wpAnyH_done (by kernel_rfl) ?_ _
      refine NoPanic.normal ?_
      go_wp2_with fail
      go_ret
      exact ⟨rfl, h1.new ((Chg.refl [] w1).drew), y0.drew.weak (by simp)⟩
  | true =>
    rw [hz] at hcB hHas
    simp only [Bool.true_and] at hcB
    replace hlay := hlay hz
    cases hcp : blkF s.L B c with
    | none =>
      rw [hFc.1 hcp] at hcB
      simp only [Option.isSome_none, Bool.false_and] at hcB
      rw [hcB] at hcS
      simp only [Bool.false_eq_true, if_false] at hcS
      rw [hcB, hcS]
      rw [hcp] at hLc
      simp only [ptrO] at hLc
      clear hlay
      go_enter Try.func44, Try.ntmps44
      go_wp2_with fail
      refine wp_region_noPanic ?_
      refine wp_region_held_drew (S := (fun w' => Chg [] w1 w')) (by kernel_rfl) ?_ (fun hHeld => ?_)
      · exact ((Chg.refl [] w1).drew)
      (refine take_on 0 (some 18) (v := ?_) rfl rfl (by kernel_rfl) (by kernel_rfl) (by kernel_rfl) (fun _ _ _ h => h) (by rfl) (by assumption) ?_ ?_; rotate_left; · (intro w hSw; go_simp; (try with_reducible rfl)))
      (try simp only [Act.put, List.setIfInBounds_toArray, List.set_cons_zero, List.set_cons_succ])
      (refine take_on 1 (some 19) (v := ?_) rfl rfl (by kernel_rfl) (by kernel_rfl) (by kernel_rfl) (fun _ _ _ h => h) (by rfl) (by assumption) ?_ ?_; rotate_left; · (intro w hSw; go_simp; (try with_reducible rfl)))
      (try simp only [Act.put, List.setIfInBounds_toArray, List.set_cons_zero, List.set_cons_succ])
      (refine take_on 2 (some 20) (v := ?_) rfl rfl (by kernel_rfl) (by kernel_rfl) (by kernel_rfl) (fun _ _ _ h => h) (by rfl) (by assumption) ?_ ?_; rotate_left; · (intro w hSw; go_simp; (try with_reducible rfl)))
      (try simp only [Act.put, List.setIfInBounds_toArray, List.set_cons_zero, List.set_cons_succ])
      refine wpAnyH_ready (rs := [3]) (by kernel_rfl) (by simp) ?_; refine AllReadyH.cons (o := _) rfl (fun K hK => ?_) AllReadyH.nil
      go_simp
      (go_at_call 57; refine (hHas _ (y0.trans hHeld (by simp))).mono ?_; rintro e u1 ⟨rfl, rfl⟩)
      refine hK.out _ _ (by (try dsimp only); exact hHeld) (fun hHeld => ?_)
      clear hK K
      (try simp only [Act.put, List.setIfInBounds_toArray, List.set_cons_zero, List.set_cons_succ])
      (refine take_on 4 (some 22) (v := ?_) rfl rfl (by kernel_rfl) (by kernel_rfl) (by kernel_rfl) (fun _ _ _ h => h) (by rfl) (by assumption) ?_ ?_; rotate_left; · (intro w hSw; go_simp; (try with_reducible rfl)))
      (try simp only [Act.put, List.setIfInBounds_toArray, List.set_cons_zero, List.set_cons_succ])
      (refine take_on 5 (some 23) (v := ?_) rfl rfl (by kernel_rfl) (by kernel_rfl) (by kernel_rfl) (fun _ _ _ h => h) (by rfl) (by assumption) ?_ ?_; rotate_left; · (intro w hSw; go_simp; (try with_reducible rfl)))
      (try simp only [Act.put, List.setIfInBounds_toArray, List.set_cons_zero, List.set_cons_succ])
      (refine take_on 6 (some 24) (v := ?_) rfl rfl (by kernel_rfl) (by kernel_rfl) (by kernel_rfl) (fun _ _ _ h => h) (by rfl) (by assumption) ?_ ?_; rotate_left; · (intro w hSw; go_simp; (try with_reducible rfl)))
      (try simp only [Act.put, List.setIfInBounds_toArray, List.set_cons_zero, List.set_cons_succ])
      (refine take_on 7 (some 25) (v := ?_) rfl rfl (by kernel_rfl) (by kernel_rfl) (by kernel_rfl) (fun _ _ _ h => h) (by rfl) (by assumption) ?_ ?_; rotate_left; · (intro w hSw; go_simp; (try with_reducible rfl)))
      (try simp only [Act.put, List.setIfInBounds_toArray, List.set_cons_zero, List.set_cons_succ])
      (refine take_on 8 (some 26) (v := ?_) rfl rfl (by kernel_rfl) (by kernel_rfl) (by kernel_rfl) (fun _ _ _ h => h) (by rfl) (by assumption) ?_ ?_; rotate_left; · (intro w hSw; go_simp; (try with_reducible rfl)))
      (try simp only [Act.put, List.setIfInBounds_toArray, List.set_cons_zero, List.set_cons_succ])
      (refine take_on 9 (some 27) (v := ?_) rfl rfl (by kernel_rfl) (by kernel_rfl) (by kernel_rfl) (fun _ _ _ h => h) (by rfl) (by assumption) ?_ ?_; rotate_left; · (intro w hSw; go_simp; (try with_reducible rfl)))
      (try simp only [Act.put, List.setIfInBounds_toArray, List.set_cons_zero, List.set_cons_succ])
      (refine take_off 10 (some 28) rfl rfl (by kernel_rfl) (by kernel_rfl) (by kernel_rfl) (fun _ _ _ h => h) (by rfl) (by assumption) ?_)
      (try simp only [Act.put, List.setIfInBounds_toArray, List.set_cons_zero, List.set_cons_succ])
      (refine take_off 11 (some 29) rfl rfl (by kernel_rfl) (by kernel_rfl) (by kernel_rfl) (fun _ _ _ h => h) (by rfl) (by assumption) ?_)
      (try simp only [Act.put, List.setIfInBounds_toArray, List.set_cons_zero, List.set_cons_succ])
      (refine take_off 12 (some 30) rfl rfl (by kernel_rfl) (by kernel_rfl) (by kernel_rfl) (fun _ _ _ h => h) (by rfl) (by assumption) ?_)
      (try simp only [Act.put, List.setIfInBounds_toArray, List.set_cons_zero, List.set_cons_succ])
      (refine take_off 13 (some 31) rfl rfl (by kernel_rfl) (by kernel_rfl) (by kernel_rfl) (fun _ _ _ h => h) (by rfl) (by assumption) ?_)
      (try simp only [Act.put, List.setIfInBounds_toArray, List.set_cons_zero, List.set_cons_succ])
      (refine take_off 14 (some 32) rfl rfl (by kernel_rfl) (by kernel_rfl) (by kernel_rfl) (fun _ _ _ h => h) (by rfl) (by assumption) ?_)
      (try simp only [Act.put, List.setIfInBounds_toArray, List.set_cons_zero, List.set_cons_succ])
      (refine take_off 15 (some 33) rfl rfl (by kernel_rfl) (by kernel_rfl) (by kernel_rfl) (fun _ _ _ h => h) (by rfl) (by assumption) ?_)
      (try simp only [Act.put, List.setIfInBounds_toArray, List.set_cons_zero, List.set_cons_succ])
      (refine take_off 16 (some 34) rfl rfl (by kernel_rfl) (by kernel_rfl) (by kernel_rfl) (fun _ _ _ h => h) (by rfl) (by assumption) ?_)
      (try simp only [Act.put, List.setIfInBounds_toArray, List.set_cons_zero, List.set_cons_succ])
      (refine take_off 17 (some 35) rfl rfl (by kernel_rfl) (by kernel_rfl) (by kernel_rfl) (fun _ _ _ h => h) (by rfl) (by assumption) ?_)
      (try simp only [Act.put, List.setIfInBounds_toArray, List.set_cons_zero, List.set_cons_succ])
      (refine take_off 18 (some 36) rfl rfl (by kernel_rfl) (by kernel_rfl) (by kernel_rfl) (fun _ _ _ h => h) (by rfl) (by assumption) ?_)
      (try simp only [Act.put, List.setIfInBounds_toArray, List.set_cons_zero, List.set_cons_succ])
      (refine take_off 19 (some 37) rfl rfl (by kernel_rfl) (by kernel_rfl) (by kernel_rfl) (fun _ _ _ h => h) (by rfl) (by assumption) ?_)
      (try simp only [Act.put, List.setIfInBounds_toArray, List.set_cons_zero, List.set_cons_succ])
      (refine take_off 20 (some 38) rfl rfl (by kernel_rfl) (by kernel_rfl) (by kernel_rfl) (fun _ _ _ h => h) (by rfl) (by assumption) ?_)
      (try simp only [Act.put, List.setIfInBounds_toArray, List.set_cons_zero, List.set_cons_succ])
      (refine take_off 21 (some 39) rfl rfl (by kernel_rfl) (by kernel_rfl) (by kernel_rfl) (fun _ _ _ h => h) (by rfl) (by assumption) ?_)
      (try simp only [Act.put, List.setIfInBounds_toArray, List.set_cons_zero, List.set_cons_succ])
      (refine take_off 22 (some 40) rfl rfl (by kernel_rfl) (by kernel_rfl) (by kernel_rfl) (fun _ _ _ h => h) (by rfl) (by assumption) ?_)
      (try simp only [Act.put, List.setIfInBounds_toArray, List.set_cons_zero, List.set_cons_succ])
      (refine take_off 23 (some 41) rfl rfl (by kernel_rfl) (by kernel_rfl) (by kernel_rfl) (fun _ _ _ h => h) (by rfl) (by assumption) ?_)
      (try simp only [Act.put, List.setIfInBounds_toArray, List.set_cons_zero, List.set_cons_succ])
      (refine take_off 24 (some 42) rfl rfl (by kernel_rfl) (by kernel_rfl) (by kernel_rfl) (fun _ _ _ h => h) (by rfl) (by assumption) ?_)
      (try simp only [Act.put, List.setIfInBounds_toArray, List.set_cons_zero, List.set_cons_succ])
      (refine take_off 25 (some 43) rfl rfl (by kernel_rfl) (by kernel_rfl) (by kernel_rfl) (fun _ _ _ h => h) (by rfl) (by assumption) ?_)
      (try simp only [Act.put, List.setIfInBounds_toArray, List.set_cons_zero, List.set_cons_succ])
      (refine take_off 26 (some 44) rfl rfl (by kernel_rfl) (by kernel_rfl) (by kernel_rfl) (fun _ _ _ h => h) (by rfl) (by assumption) ?_)
      (try simp only [Act.put, List.setIfInBounds_toArray, List.set_cons_zero, List.set_cons_succ])
      (refine take_on 27 (some 45) (v := ?_) rfl rfl (by kernel_rfl) (by kernel_rfl) (by kernel_rfl) (fun _ _ _ h => h) (by rfl) (by assumption) ?_ ?_; rotate_left; · (intro w hSw; go_simp; (try with_reducible rfl)))
      (try simp only [Act.put, List.setIfInBounds_toArray, List.set_cons_zero, List.set_cons_succ])
      refine wpAnyH_done (by kernel_rfl) ?_ _
      refine NoPanic.normal ?_
      go_wp2_with fail
      go_ret
      exact ⟨rfl, h1.new ((Chg.refl [] w1).drew), y0.drew.weak (by simp)⟩
    | some cb =>
      obtain ⟨gc, hgc⟩ : ∃ gc, pgAt s.L c = some gc := by
        cases e : pgAt s.L c with
        | none => rw [hFc.2 e] at hcp; cases hcp
        | some g => exact ⟨g, rfl⟩
      obtain ⟨jc, cb', _, _, e3, hPc, _⟩ := h.at_ hgc
      rw [hcp] at e3; injection e3 with e3; subst e3
      obtain ⟨gp, egp, hgm, hgf, i0, i7, _, _, _⟩ := hasS_has hok hz
      obtain ⟨jp, pb, _, _, e4, hPp, _⟩ := h.at_ egp
      have hLp := fun w' (y : Chg [] w w') => (h.new y).look p hp'
      rw [e4] at hLp
      rw [hcp] at hLc
      simp only [ptrO] at hLc hLp
      have hlc : levP s.L c = gc.k.lev := by unfold levP; rw [hgc]; rfl
      have hlp : levP s.L p = gp.k.lev := by unfold levP; rw [egp]; rfl
      have hrp := hok.right gp hgm
      unfold Ky.right at hrp
      rw [decide_eq_true_eq] at hrp
      have hsub : IntKind.i64.wrap (gp.k.lev - 1) = gp.k.lev - 1 := IntWalk.i64_in _ (by omega)
      rw [hlc, hlp, hgc] at hcB
      simp only [Option.isSome_some, Bool.true_and] at hcB
      have hqst := h.st
      clear hlc hlp hrp hgc egp hgm hgf e4
      by_cases hlv : gc.k.lev = gp.k.lev - 1
      · have hne : (gc.k.lev != gp.k.lev - 1) = false := by simp [hlv]
        rw [decide_eq_true hlv] at hcB
        rw [hcB] at hcS
        simp only [if_true] at hcS
        rw [hcB, hcS]
        go_enter Try.func44, Try.ntmps44
        go_wp2_with fail
        refine wp_region_noPanic ?_
        refine wp_region_held_drew (S := (fun w' => Chg [] w1 w')) (by kernel_rfl) ?_ (fun hHeld => ?_)
        · exact ((Chg.refl [] w1).drew)
        (refine take_on 0 (some 18) (v := ?_) rfl rfl (by kernel_rfl) (by kernel_rfl) (by kernel_rfl) (fun _ _ _ h => h) (by rfl) (by assumption) ?_ ?_; rotate_left; · (intro w hSw; go_simp; (try with_reducible rfl)))
        (try simp only [Act.put, List.setIfInBounds_toArray, List.set_cons_zero, List.set_cons_succ])
        (refine take_on 1 (some 19) (v := ?_) rfl rfl (by kernel_rfl) (by kernel_rfl) (by kernel_rfl) (fun _ _ _ h => h) (by rfl) (by assumption) ?_ ?_; rotate_left; · (intro w hSw; go_simp; (try with_reducible rfl)))
        (try simp only [Act.put, List.setIfInBounds_toArray, List.set_cons_zero, List.set_cons_succ])
        (refine take_on 2 (some 20) (v := ?_) rfl rfl (by kernel_rfl) (by kernel_rfl) (by kernel_rfl) (fun _ _ _ h => h) (by rfl) (by assumption) ?_ ?_; rotate_left; · (intro w hSw; go_simp; (try with_reducible rfl)))
        (try simp only [Act.put, List.setIfInBounds_toArray, List.set_cons_zero, List.set_cons_succ])
        refine wpAnyH_ready (rs := [3]) (by kernel_rfl) (by simp) ?_; refine AllReadyH.cons (o := _) rfl (fun K hK => ?_) AllReadyH.nil
        go_simp
        (go_at_call 57; refine (hHas _ (y0.trans hHeld (by simp))).mono ?_; rintro e u1 ⟨rfl, rfl⟩)
        refine hK.out _ _ (by (try dsimp only); exact hHeld) (fun hHeld => ?_)
        clear hK K
        (try simp only [Act.put, List.setIfInBounds_toArray, List.set_cons_zero, List.set_cons_succ])
        (refine take_on 4 (some 22) (v := ?_) rfl rfl (by kernel_rfl) (by kernel_rfl) (by kernel_rfl) (fun _ _ _ h => h) (by rfl) (by assumption) ?_ ?_; rotate_left; · (intro w hSw; go_simp; (try with_reducible rfl)))
        (try simp only [Act.put, List.setIfInBounds_toArray, List.set_cons_zero, List.set_cons_succ])
        (refine take_on 5 (some 23) (v := ?_) rfl rfl (by kernel_rfl) (by kernel_rfl) (by kernel_rfl) (fun _ _ _ h => h) (by rfl) (by assumption) ?_ ?_; rotate_left; · (intro w hSw; go_simp; (try with_reducible rfl)))
        (try simp only [Act.put, List.setIfInBounds_toArray, List.set_cons_zero, List.set_cons_succ])
        (refine take_on 6 (some 24) (v := ?_) rfl rfl (by kernel_rfl) (by kernel_rfl) (by kernel_rfl) (fun _ _ _ h => h) (by rfl) (by assumption) ?_ ?_; rotate_left; · (intro w hSw; go_simp; (try with_reducible rfl)))
        (try simp only [Act.put, List.setIfInBounds_toArray, List.set_cons_zero, List.set_cons_succ])
        (refine take_on 7 (some 25) (v := ?_) rfl rfl (by kernel_rfl) (by kernel_rfl) (by kernel_rfl) (fun _ _ _ h => h) (by rfl) (by assumption) ?_ ?_; rotate_left; · (intro w hSw; go_simp; (try with_reducible rfl)))
        (try simp only [Act.put, List.setIfInBounds_toArray, List.set_cons_zero, List.set_cons_succ])
        (refine take_on 8 (some 26) (v := ?_) rfl rfl (by kernel_rfl) (by kernel_rfl) (by kernel_rfl) (fun _ _ _ h => h) (by rfl) (by assumption) ?_ ?_; rotate_left; · (intro w hSw; go_simp; (try with_reducible rfl)))
        (try simp only [Act.put, List.setIfInBounds_toArray, List.set_cons_zero, List.set_cons_succ])
        (refine take_on 9 (some 27) (v := ?_) rfl rfl (by kernel_rfl) (by kernel_rfl) (by kernel_rfl) (fun _ _ _ h => h) (by rfl) (by assumption) ?_ ?_; rotate_left; · (intro w hSw; go_simp; (try with_reducible rfl)))
        (try simp only [Act.put, List.setIfInBounds_toArray, List.set_cons_zero, List.set_cons_succ])
        (refine take_on 10 (some 28) (v := ?_) rfl rfl (by kernel_rfl) (by kernel_rfl) (by kernel_rfl) (fun _ _ _ h => h) (by rfl) (by assumption) ?_ ?_; rotate_left; · (intro w hSw; go_simp; (try with_reducible rfl)))
        (try simp only [Act.put, List.setIfInBounds_toArray, List.set_cons_zero, List.set_cons_succ])
        (refine take_on 11 (some 29) (v := ?_) rfl rfl (by kernel_rfl) (by kernel_rfl) (by kernel_rfl) (fun _ _ _ h => h) (by rfl) (by assumption) ?_ ?_; rotate_left; · (intro w hSw; go_simp; (try with_reducible rfl)))
        (try simp only [Act.put, List.setIfInBounds_toArray, List.set_cons_zero, List.set_cons_succ])
        (refine take_on 12 (some 30) (v := ?_) rfl rfl (by kernel_rfl) (by kernel_rfl) (by kernel_rfl) (fun _ _ _ h => h) (by rfl) (by assumption) ?_ ?_; rotate_left; · (intro w hSw; go_simp; (try with_reducible rfl)))
        (try simp only [Act.put, List.setIfInBounds_toArray, List.set_cons_zero, List.set_cons_succ])
        (refine take_on 13 (some 31) (v := ?_) rfl rfl (by kernel_rfl) (by kernel_rfl) (by kernel_rfl) (fun _ _ _ h => h) (by rfl) (by assumption) ?_ ?_; rotate_left; · (intro w hSw; go_simp; (try with_reducible rfl)))
        (try simp only [Act.put, List.setIfInBounds_toArray, List.set_cons_zero, List.set_cons_succ])
        (refine take_on 14 (some 32) (v := ?_) rfl rfl (by kernel_rfl) (by kernel_rfl) (by kernel_rfl) (fun _ _ _ h => h) (by rfl) (by assumption) ?_ ?_; rotate_left; · (intro w hSw; (try dsimp only at hSw); have b_ := Blk.chg_ hPc (y0.trans hSw (by simp)) (by simp); obtain ⟨_, _, d2, _⟩ := PgB.head b_; go_simp; (try with_reducible rfl)))
        (try simp only [Act.put, List.setIfInBounds_toArray, List.set_cons_zero, List.set_cons_succ])
        (refine take_on 15 (some 33) (v := ?_) rfl rfl (by kernel_rfl) (by kernel_rfl) (by kernel_rfl) (fun _ _ _ h => h) (by rfl) (by assumption) ?_ ?_; rotate_left; · (intro w hSw; go_simp; (try with_reducible rfl)))
        (try simp only [Act.put, List.setIfInBounds_toArray, List.set_cons_zero, List.set_cons_succ])
        (refine take_on 16 (some 34) (v := ?_) rfl rfl (by kernel_rfl) (by kernel_rfl) (by kernel_rfl) (fun _ _ _ h => h) (by rfl) (by assumption) ?_ ?_; rotate_left; · (intro w hSw; go_simp; (try with_reducible rfl)))
        (try simp only [Act.put, List.setIfInBounds_toArray, List.set_cons_zero, List.set_cons_succ])
        (refine take_on 17 (some 35) (v := ?_) rfl rfl (by kernel_rfl) (by kernel_rfl) (by kernel_rfl) (fun _ _ _ h => h) (by rfl) (by assumption) ?_ ?_; rotate_left; · (intro w hSw; go_simp; (try with_reducible rfl)))
        (try simp only [Act.put, List.setIfInBounds_toArray, List.set_cons_zero, List.set_cons_succ])
        (refine take_on 18 (some 36) (v := ?_) rfl rfl (by kernel_rfl) (by kernel_rfl) (by kernel_rfl) (fun _ _ _ h => h) (by rfl) (by assumption) ?_ ?_; rotate_left; · (intro w hSw; (try dsimp only at hSw); have b_ := (hqst.chg_ (y0.trans hSw (by simp)) (by simp)).cell 2; simp only [List.getElem?_toArray, List.getElem?_cons_succ, List.getElem?_cons_zero] at b_; go_simp; (try with_reducible rfl)))
        (try simp only [Act.put, List.setIfInBounds_toArray, List.set_cons_zero, List.set_cons_succ])
        (refine take_on 19 (some 37) (v := ?_) rfl rfl (by kernel_rfl) (by kernel_rfl) (by kernel_rfl) (fun _ _ _ h => h) (by rfl) (by assumption) ?_ ?_; rotate_left; · (intro w hSw; go_simp; (try with_reducible rfl)))
        (try simp only [Act.put, List.setIfInBounds_toArray, List.set_cons_zero, List.set_cons_succ])
        (refine take_on 20 (some 38) (v := ?_) rfl rfl (by kernel_rfl) (by kernel_rfl) (by kernel_rfl) (fun _ _ _ h => h) (by rfl) (by assumption) ?_ ?_; rotate_left; · (intro w hSw; (try dsimp only at hSw); have hlk_ := hLp w (y0.trans hSw (by simp)); go_simp; (try with_reducible rfl)))
        (try simp only [Act.put, List.setIfInBounds_toArray, List.set_cons_zero, List.set_cons_succ])
        (refine take_on 21 (some 39) (v := ?_) rfl rfl (by kernel_rfl) (by kernel_rfl) (by kernel_rfl) (fun _ _ _ h => h) (by rfl) (by assumption) ?_ ?_; rotate_left; · (intro w hSw; go_simp; (try with_reducible rfl)))
        (try simp only [Act.put, List.setIfInBounds_toArray, List.set_cons_zero, List.set_cons_succ])
        (refine take_on 22 (some 40) (v := ?_) rfl rfl (by kernel_rfl) (by kernel_rfl) (by kernel_rfl) (fun _ _ _ h => h) (by rfl) (by assumption) ?_ ?_; rotate_left; · (intro w hSw; go_simp; (try with_reducible rfl)))
        (try simp only [Act.put, List.setIfInBounds_toArray, List.set_cons_zero, List.set_cons_succ])
        (refine take_on 23 (some 41) (v := ?_) rfl rfl (by kernel_rfl) (by kernel_rfl) (by kernel_rfl) (fun _ _ _ h => h) (by rfl) (by assumption) ?_ ?_; rotate_left; · (intro w hSw; go_simp; (try with_reducible rfl)))
        (try simp only [Act.put, List.setIfInBounds_toArray, List.set_cons_zero, List.set_cons_succ])
        (refine take_on 24 (some 42) (v := ?_) rfl rfl (by kernel_rfl) (by kernel_rfl) (by kernel_rfl) (fun _ _ _ h => h) (by rfl) (by assumption) ?_ ?_; rotate_left; · (intro w hSw; (try dsimp only at hSw); have b_ := Blk.chg_ hPp (y0.trans hSw (by simp)) (by simp); obtain ⟨_, _, d2, _⟩ := PgB.head b_; go_simp; (try with_reducible rfl)))
        (try simp only [Act.put, List.setIfInBounds_toArray, List.set_cons_zero, List.set_cons_succ])
        (refine take_on 25 (some 43) (v := ?_) rfl rfl (by kernel_rfl) (by kernel_rfl) (by kernel_rfl) (fun _ _ _ h => h) (by rfl) (by assumption) ?_ ?_; rotate_left; · (intro w hSw; go_simp; (try with_reducible rfl)))
        (try simp only [Act.put, List.setIfInBounds_toArray, List.set_cons_zero, List.set_cons_succ])
        (refine take_on 26 (some 44) (v := ?_) rfl rfl (by kernel_rfl) (by kernel_rfl) (by kernel_rfl) (fun _ _ _ h => h) (by rfl) (by assumption) ?_ ?_; rotate_left; · (intro w hSw; go_simp; (try with_reducible rfl)))
        (try simp only [Act.put, List.setIfInBounds_toArray, List.set_cons_zero, List.set_cons_succ])
        (refine take_on 27 (some 45) (v := ?_) rfl rfl (by kernel_rfl) (by kernel_rfl) (by kernel_rfl) (fun _ _ _ h => h) (by rfl) (by assumption) ?_ ?_; rotate_left; · (intro w hSw; go_simp; (try with_reducible rfl)))
        (try simp only [Act.put, List.setIfInBounds_toArray, List.set_cons_zero, List.set_cons_succ])
        refine wpAnyH_done (by kernel_rfl) ?_ _
        refine NoPanic.normal ?_
        have x0 := r0.cell 0; have x1 := r0.cell 1; have x2 := r0.cell 2
        simp only [List.getElem?_toArray, List.getElem?_cons_zero, List.getElem?_cons_succ] at x0 x1 x2
        go_wp2_with fail
        refine (hlay _ y0.drew).mono ?_; rintro e w3 ⟨rfl, h3, y3⟩
        clear hlay
        go_wp2_with fail
        go_ret
        exact ⟨rfl, h3, (y0.drew.weak (by simp)).trans y3 (fun _ _ hm => hm)⟩
      · have hne : (gc.k.lev != gp.k.lev - 1) = true := by simp [hlv]
        rw [decide_eq_false hlv] at hcB
        rw [hcB] at hcS
        simp only [Bool.false_eq_true, if_false] at hcS
        rw [hcB, hcS]
        clear hlay
        go_enter Try.func44, Try.ntmps44
        go_wp2_with fail
        refine wp_region_noPanic ?_
        refine wp_region_held_drew (S := (fun w' => Chg [] w1 w')) (by kernel_rfl) ?_ (fun hHeld => ?_)
        · exact ((Chg.refl [] w1).drew)
        (refine take_on 0 (some 18) (v := ?_) rfl rfl (by kernel_rfl) (by kernel_rfl) (by kernel_rfl) (fun _ _ _ h => h) (by rfl) (by assumption) ?_ ?_; rotate_left; · (intro w hSw; go_simp; (try with_reducible rfl)))
        (try simp only [Act.put, List.setIfInBounds_toArray, List.set_cons_zero, List.set_cons_succ])
        (refine take_on 1 (some 19) (v := ?_) rfl rfl (by kernel_rfl) (by kernel_rfl) (by kernel_rfl) (fun _ _ _ h => h) (by rfl) (by assumption) ?_ ?_; rotate_left; · (intro w hSw; go_simp; (try with_reducible rfl)))
        (try simp only [Act.put, List.setIfInBounds_toArray, List.set_cons_zero, List.set_cons_succ])
        (refine take_on 2 (some 20) (v := ?_) rfl rfl (by kernel_rfl) (by kernel_rfl) (by kernel_rfl) (fun _ _ _ h => h) (by rfl) (by assumption) ?_ ?_; rotate_left; · (intro w hSw; go_simp; (try with_reducible rfl)))
        (try simp only [Act.put, List.setIfInBounds_toArray, List.set_cons_zero, List.set_cons_succ])
        refine wpAnyH_ready (rs := [3]) (by kernel_rfl) (by simp) ?_; refine AllReadyH.cons (o := _) rfl (fun K hK => ?_) AllReadyH.nil
        go_simp
        (go_at_call 57; refine (hHas _ (y0.trans hHeld (by simp))).mono ?_; rintro e u1 ⟨rfl, rfl⟩)
        refine hK.out _ _ (by (try dsimp only); exact hHeld) (fun hHeld => ?_)
        clear hK K
        (try simp only [Act.put, List.setIfInBounds_toArray, List.set_cons_zero, List.set_cons_succ])
        (refine take_on 4 (some 22) (v := ?_) rfl rfl (by kernel_rfl) (by kernel_rfl) (by kernel_rfl) (fun _ _ _ h => h) (by rfl) (by assumption) ?_ ?_; rotate_left; · (intro w hSw; go_simp; (try with_reducible rfl)))
        (try simp only [Act.put, List.setIfInBounds_toArray, List.set_cons_zero, List.set_cons_succ])
        (refine take_on 5 (some 23) (v := ?_) rfl rfl (by kernel_rfl) (by kernel_rfl) (by kernel_rfl) (fun _ _ _ h => h) (by rfl) (by assumption) ?_ ?_; rotate_left; · (intro w hSw; go_simp; (try with_reducible rfl)))
        (try simp only [Act.put, List.setIfInBounds_toArray, List.set_cons_zero, List.set_cons_succ])
        (refine take_on 6 (some 24) (v := ?_) rfl rfl (by kernel_rfl) (by kernel_rfl) (by kernel_rfl) (fun _ _ _ h => h) (by rfl) (by assumption) ?_ ?_; rotate_left; · (intro w hSw; go_simp; (try with_reducible rfl)))
        (try simp only [Act.put, List.setIfInBounds_toArray, List.set_cons_zero, List.set_cons_succ])
        (refine take_on 7 (some 25) (v := ?_) rfl rfl (by kernel_rfl) (by kernel_rfl) (by kernel_rfl) (fun _ _ _ h => h) (by rfl) (by assumption) ?_ ?_; rotate_left; · (intro w hSw; go_simp; (try with_reducible rfl)))
        (try simp only [Act.put, List.setIfInBounds_toArray, List.set_cons_zero, List.set_cons_succ])
        (refine take_on 8 (some 26) (v := ?_) rfl rfl (by kernel_rfl) (by kernel_rfl) (by kernel_rfl) (fun _ _ _ h => h) (by rfl) (by assumption) ?_ ?_; rotate_left; · (intro w hSw; go_simp; (try with_reducible rfl)))
        (try simp only [Act.put, List.setIfInBounds_toArray, List.set_cons_zero, List.set_cons_succ])
        (refine take_on 9 (some 27) (v := ?_) rfl rfl (by kernel_rfl) (by kernel_rfl) (by kernel_rfl) (fun _ _ _ h => h) (by rfl) (by assumption) ?_ ?_; rotate_left; · (intro w hSw; go_simp; (try with_reducible rfl)))
        (try simp only [Act.put, List.setIfInBounds_toArray, List.set_cons_zero, List.set_cons_succ])
        (refine take_on 10 (some 28) (v := ?_) rfl rfl (by kernel_rfl) (by kernel_rfl) (by kernel_rfl) (fun _ _ _ h => h) (by rfl) (by assumption) ?_ ?_; rotate_left; · (intro w hSw; go_simp; (try with_reducible rfl)))
        (try simp only [Act.put, List.setIfInBounds_toArray, List.set_cons_zero, List.set_cons_succ])
        (refine take_on 11 (some 29) (v := ?_) rfl rfl (by kernel_rfl) (by kernel_rfl) (by kernel_rfl) (fun _ _ _ h => h) (by rfl) (by assumption) ?_ ?_; rotate_left; · (intro w hSw; go_simp; (try with_reducible rfl)))
        (try simp only [Act.put, List.setIfInBounds_toArray, List.set_cons_zero, List.set_cons_succ])
        (refine take_on 12 (some 30) (v := ?_) rfl rfl (by kernel_rfl) (by kernel_rfl) (by kernel_rfl) (fun _ _ _ h => h) (by rfl) (by assumption) ?_ ?_; rotate_left; · (intro w hSw; go_simp; (try with_reducible rfl)))
        (try simp only [Act.put, List.setIfInBounds_toArray, List.set_cons_zero, List.set_cons_succ])
        (refine take_on 13 (some 31) (v := ?_) rfl rfl (by kernel_rfl) (by kernel_rfl) (by kernel_rfl) (fun _ _ _ h => h) (by rfl) (by assumption) ?_ ?_; rotate_left; · (intro w hSw; go_simp; (try with_reducible rfl)))
        (try simp only [Act.put, List.setIfInBounds_toArray, List.set_cons_zero, List.set_cons_succ])
        (refine take_on 14 (some 32) (v := ?_) rfl rfl (by kernel_rfl) (by kernel_rfl) (by kernel_rfl) (fun _ _ _ h => h) (by rfl) (by assumption) ?_ ?_; rotate_left; · (intro w hSw; (try dsimp only at hSw); have b_ := Blk.chg_ hPc (y0.trans hSw (by simp)) (by simp); obtain ⟨_, _, d2, _⟩ := PgB.head b_; go_simp; (try with_reducible rfl)))
        (try simp only [Act.put, List.setIfInBounds_toArray, List.set_cons_zero, List.set_cons_succ])
        (refine take_on 15 (some 33) (v := ?_) rfl rfl (by kernel_rfl) (by kernel_rfl) (by kernel_rfl) (fun _ _ _ h => h) (by rfl) (by assumption) ?_ ?_; rotate_left; · (intro w hSw; go_simp; (try with_reducible rfl)))
        (try simp only [Act.put, List.setIfInBounds_toArray, List.set_cons_zero, List.set_cons_succ])
        (refine take_on 16 (some 34) (v := ?_) rfl rfl (by kernel_rfl) (by kernel_rfl) (by kernel_rfl) (fun _ _ _ h => h) (by rfl) (by assumption) ?_ ?_; rotate_left; · (intro w hSw; go_simp; (try with_reducible rfl)))
        (try simp only [Act.put, List.setIfInBounds_toArray, List.set_cons_zero, List.set_cons_succ])
        (refine take_on 17 (some 35) (v := ?_) rfl rfl (by kernel_rfl) (by kernel_rfl) (by kernel_rfl) (fun _ _ _ h => h) (by rfl) (by assumption) ?_ ?_; rotate_left; · (intro w hSw; go_simp; (try with_reducible rfl)))
        (try simp only [Act.put, List.setIfInBounds_toArray, List.set_cons_zero, List.set_cons_succ])
        (refine take_on 18 (some 36) (v := ?_) rfl rfl (by kernel_rfl) (by kernel_rfl) (by kernel_rfl) (fun _ _ _ h => h) (by rfl) (by assumption) ?_ ?_; rotate_left; · (intro w hSw; (try dsimp only at hSw); have b_ := (hqst.chg_ (y0.trans hSw (by simp)) (by simp)).cell 2; simp only [List.getElem?_toArray, List.getElem?_cons_succ, List.getElem?_cons_zero] at b_; go_simp; (try with_reducible rfl)))
        (try simp only [Act.put, List.setIfInBounds_toArray, List.set_cons_zero, List.set_cons_succ])
        (refine take_on 19 (some 37) (v := ?_) rfl rfl (by kernel_rfl) (by kernel_rfl) (by kernel_rfl) (fun _ _ _ h => h) (by rfl) (by assumption) ?_ ?_; rotate_left; · (intro w hSw; go_simp; (try with_reducible rfl)))
        (try simp only [Act.put, List.setIfInBounds_toArray, List.set_cons_zero, List.set_cons_succ])
        (refine take_on 20 (some 38) (v := ?_) rfl rfl (by kernel_rfl) (by kernel_rfl) (by kernel_rfl) (fun _ _ _ h => h) (by rfl) (by assumption) ?_ ?_; rotate_left; · (intro w hSw; (try dsimp only at hSw); have hlk_ := hLp w (y0.trans hSw (by simp)); go_simp; (try with_reducible rfl)))
        (try simp only [Act.put, List.setIfInBounds_toArray, List.set_cons_zero, List.set_cons_succ])
        (refine take_on 21 (some 39) (v := ?_) rfl rfl (by kernel_rfl) (by kernel_rfl) (by kernel_rfl) (fun _ _ _ h => h) (by rfl) (by assumption) ?_ ?_; rotate_left; · (intro w hSw; go_simp; (try with_reducible rfl)))
        (try simp only [Act.put, List.setIfInBounds_toArray, List.set_cons_zero, List.set_cons_succ])
        (refine take_on 22 (some 40) (v := ?_) rfl rfl (by kernel_rfl) (by kernel_rfl) (by kernel_rfl) (fun _ _ _ h => h) (by rfl) (by assumption) ?_ ?_; rotate_left; · (intro w hSw; go_simp; (try with_reducible rfl)))
        (try simp only [Act.put, List.setIfInBounds_toArray, List.set_cons_zero, List.set_cons_succ])
        (refine take_on 23 (some 41) (v := ?_) rfl rfl (by kernel_rfl) (by kernel_rfl) (by kernel_rfl) (fun _ _ _ h => h) (by rfl) (by assumption) ?_ ?_; rotate_left; · (intro w hSw; go_simp; (try with_reducible rfl)))
        (try simp only [Act.put, List.setIfInBounds_toArray, List.set_cons_zero, List.set_cons_succ])
        (refine take_on 24 (some 42) (v := ?_) rfl rfl (by kernel_rfl) (by kernel_rfl) (by kernel_rfl) (fun _ _ _ h => h) (by rfl) (by assumption) ?_ ?_; rotate_left; · (intro w hSw; (try dsimp only at hSw); have b_ := Blk.chg_ hPp (y0.trans hSw (by simp)) (by simp); obtain ⟨_, _, d2, _⟩ := PgB.head b_; go_simp; (try with_reducible rfl)))
        (try simp only [Act.put, List.setIfInBounds_toArray, List.set_cons_zero, List.set_cons_succ])
        (refine take_on 25 (some 43) (v := ?_) rfl rfl (by kernel_rfl) (by kernel_rfl) (by kernel_rfl) (fun _ _ _ h => h) (by rfl) (by assumption) ?_ ?_; rotate_left; · (intro w hSw; go_simp; (try with_reducible rfl)))
        (try simp only [Act.put, List.setIfInBounds_toArray, List.set_cons_zero, List.set_cons_succ])
        (refine take_on 26 (some 44) (v := ?_) rfl rfl (by kernel_rfl) (by kernel_rfl) (by kernel_rfl) (fun _ _ _ h => h) (by rfl) (by assumption) ?_ ?_; rotate_left; · (intro w hSw; go_simp; (try with_reducible rfl)))
        (try simp only [Act.put, List.setIfInBounds_toArray, List.set_cons_zero, List.set_cons_succ])
        (refine take_on 27 (some 45) (v := ?_) rfl rfl (by kernel_rfl) (by kernel_rfl) (by kernel_rfl) (fun _ _ _ h => h) (by rfl) (by assumption) ?_ ?_; rotate_left; · (intro w hSw; go_simp; (try with_reducible rfl)))
        (try simp only [Act.put, List.setIfInBounds_toArray, List.set_cons_zero, List.set_cons_succ])
        refine wpAnyH_done (by kernel_rfl) ?_ _
        refine NoPanic.normal ?_
        go_wp2_with fail
        go_ret
        exact ⟨rfl, h1.new ((Chg.refl [] w1).drew), y0.drew.weak (by simp)⟩

set_option maxRecDepth 100000 in
set_option maxHeartbeats 4000000 in
theorem Sleaf_any (p i g x : Int) (r : Rg) (w : World) (h : StX w q hp hb n a m s fp mp FS v B) (hok : SrOk n a m s) (hp' : -9223372036854775808 ≤ p ∧ p ≤ 9223372036854775807) :
    Calls Try.prog 45 #[.pointer (some ⟨q, 0, none⟩), .int .i64 p, .int .i64 i, .int .i64 g, .int .i64 x, .agg r.cs] w fun e w' => e = .returned (.bool (leafB n s p i x)) ∧ StX w' q hp hb n a m (leafS n s p i g x r) fp mp FS v B ∧ Chg (hb :: B) w w' := by
  have hcB : leafB n s p i x = (hasS s p i && decide (levP s.L p = 1) && decide (0 ≤ x ∧ x < n)) := rfl
  have hcS : leafS n s p i g x r = if leafB n s p i x then setS n s p i ⟨2, g, r⟩ x else s := rfl
  obtain ⟨rw_, ru, rx⟩ := r
  simp only [Rg.cs] at *
  have y0 := (Chg.refl [] w).alloc (.cells #[.bool rw_, .bool ru, .bool rx] 37)
  have r0 := Blk.new w 37 #[.bool rw_, .bool ru, .bool rx]
  have h1 := h.new y0
  have hHas := fun w' (y : Chg [] w w') => Shas_any p i w' (h.new y) hp'
  have hlay := fun (hs : hasS s p i = true) w' (y : Chg [] w w') => Slay_any p i ⟨2, g, ⟨rw_, ru, rx⟩⟩ x w' (h.new y) hs
  simp only [Slt.cl] at hlay
  obtain ⟨c0, c1, c2, c3⟩ := h1.c4
  have hFr := fun w' (y : Chg [] w w') => Frames_at hp hb n s.W w' (h.new y).hm
  have x0 := r0.cell 0; have x1 := r0.cell 1; have x2 := r0.cell 2
  simp only [List.getElem?_toArray, List.getElem?_cons_zero, List.getElem?_cons_succ] at x0 x1 x2
  have hno : leafB n s p i x = false → leafS n s p i g x ⟨rw_, ru, rx⟩ = s := fun e => by rw [hcS, e]; rfl
  have hya : leafB n s p i x = true → leafS n s p i g x ⟨rw_, ru, rx⟩ = setS n s p i ⟨2, g, ⟨rw_, ru, rx⟩⟩ x := fun e => by rw [hcS, e]; rfl
  clear hcS r0
  cases hz : hasS s p i with
  | false =>
    rw [hz, Bool.false_and, Bool.false_and] at hcB
    rw [hno hcB, hcB]
    rw [hz] at hHas
    clear hlay hno hya hcB hFr
    go_enter Try.func45, Try.ntmps45
    go_wp2_with fail
    refine (hHas _ y0).mono ?_; rintro e w2 ⟨rfl, rfl⟩
    clear hHas
    go_wp2_with fail
    go_ret
    exact ⟨rfl, h1, y0.weak (by simp)⟩
  | true =>
    replace hlay := hlay hz
    obtain ⟨gp, egp, hgm, hgf, i0, i7, _, _, _⟩ := hasS_has hok hz
    obtain ⟨jp, pb, _, _, e4, hPp, _⟩ := h1.at_ egp
    have hLp := h1.look p hp'
    rw [e4] at hLp
    simp only [ptrO] at hLp
    obtain ⟨_, _, d2, _⟩ := PgB.head hPp
    have hlp : levP s.L p = gp.k.lev := by unfold levP; rw [egp]; rfl
    rw [hz, hlp, Bool.true_and] at hcB
    rw [hz] at hHas
    clear hlp egp hgm hgf e4
    by_cases hl1 : gp.k.lev = 1
    · have hne : (gp.k.lev != 1) = false := by simp [hl1]
      rw [decide_eq_true hl1, Bool.true_and] at hcB
      rw [hl1] at d2
      by_cases hx0 : x < 0
      · have hd0 : decide (x < 0) = true := by simpa using hx0
        rw [decide_eq_false (by omega)] at hcB
        rw [hno hcB, hcB]
        clear hlay hno hya hcB hFr
        go_enter Try.func45, Try.ntmps45
        go_wp2_with fail
        refine (hHas _ y0).mono ?_; rintro e w2 ⟨rfl, rfl⟩
        clear hHas
        go_wp2_with fail
        go_ret
        exact ⟨rfl, h1, y0.weak (by simp)⟩
      · have hd0 : decide (x < 0) = false := by simp; omega
        by_cases hxn : x < n
        · have hd1 : decide (x ≥ (n : Int)) = false := by simp; omega
          have hge : ¬ (n : Int) ≤ x := by omega
          rw [decide_eq_true (by omega)] at hcB
          rw [hya hcB, hcB]
          clear hno hya hcB
          go_enter Try.func45, Try.ntmps45
          go_wp2_with fail
          refine (hHas _ y0).mono ?_; rintro e w2 ⟨rfl, rfl⟩
          clear hHas
          go_wp2_with fail
          refine (hFr _ y0).mono ?_; rintro e w2 ⟨rfl, rfl⟩
          clear hFr
          go_wp2_with fail
          refine (hlay _ y0).mono ?_; rintro e w3 ⟨rfl, h3, y3⟩
          clear hlay
          go_wp2_with fail
          go_ret
          exact ⟨rfl, h3, (y0.weak (by simp)).trans y3 (fun _ _ hm => hm)⟩
        · have hd1 : decide (x ≥ (n : Int)) = true := by simp; omega
          have hge : (n : Int) ≤ x := by omega
          rw [decide_eq_false (by omega)] at hcB
          rw [hno hcB, hcB]
          clear hlay hno hya hcB
          go_enter Try.func45, Try.ntmps45
          go_wp2_with fail
          refine (hHas _ y0).mono ?_; rintro e w2 ⟨rfl, rfl⟩
          clear hHas
          go_wp2_with fail
          refine (hFr _ y0).mono ?_; rintro e w2 ⟨rfl, rfl⟩
          clear hFr
          go_wp2_with fail
          go_ret
          exact ⟨rfl, h1, y0.weak (by simp)⟩
    · have hne : (gp.k.lev != 1) = true := by simp [hl1]
      rw [decide_eq_false hl1, Bool.false_and] at hcB
      rw [hno hcB, hcB]
      clear hlay hno hya hcB hFr
      go_enter Try.func45, Try.ntmps45
      go_wp2_with fail
      refine (hHas _ y0).mono ?_; rintro e w2 ⟨rfl, rfl⟩
      clear hHas
      go_wp2_with fail
      go_ret
      exact ⟨rfl, h1, y0.weak (by simp)⟩

end

end Go.Proofs.Ytpmfooeifhhfkaa
