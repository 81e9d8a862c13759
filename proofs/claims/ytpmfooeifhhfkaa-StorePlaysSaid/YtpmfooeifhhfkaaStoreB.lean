/-
  The contracts of package store's right, word, has, Left, Key, Slot.
-/
import Derived.Test.YtpmfooeifhhfkaaStoreA
import Derived.Test.YtpmfooeifhhfkaaG0
namespace Go.Proofs.Ytpmfooeifhhfkaa
open Go.RowKit Go.Maps

/-- a result in a cell, as a whole, and one in a slot -/
theorem cellS_ret {P : Program} {fn : Func} {p q : Tmp} {ty : TypeId} (h : fn.results = #[.cell p ty, .tmp q]) {tmps : Array Value} {w : World} {g : Nat} {t : TypeId} {cs : Array Value} {d : TypeDesc} {v : Value} (hb : Blk w g t cs)
    (hp : tmps.getD p undef = .pointer (some ⟨g, 0, none⟩)) (hq : tmps.getD q undef = v) (hu : P.underlying ty = some d) (hd : (match d with | .struct _ | .array _ _ => true | _ => false) = true) (hi : (P.info? ty).map (·.size) = some cs.size) :
    (results fn tmps).run P w = .ok (.tuple #[.agg cs, v]) w := by
  have hp' : tmps[p]?.getD undef = .pointer (some ⟨g, 0, none⟩) := by simpa using hp
  have hq' : tmps[q]?.getD undef = v := by simpa using hq
  simp [results, h, hp', hq', asAddr, run_loadVar_row w g t ty cs (0, 0) d hb hu hd hi]

set_option maxRecDepth 100000 in
set_option maxHeartbeats 400000 in
theorem Frames_at (p b n : Nat) (L : List Int) (w : World) (h : MemAt w p b n L) :
    Calls Try.prog 47 #[.pointer (some ⟨p, 0, none⟩)] w fun e w' => e = .returned (.int .i64 n) ∧ w = w' := by
  have c0 := h.st.cell 0
  simp at c0
  go_enter Try.func47, Try.ntmps47
  go_wp2
  go_ret
  exact ⟨rfl, rfl⟩

set_option maxRecDepth 100000 in
set_option maxHeartbeats 1000000 in
theorem Sright_any (k : Ky) (w : World) : Calls Try.prog 73 #[.agg k.cs] w fun e w' => e = .returned (.bool k.right) ∧ Chg [] w w' := by
  obtain ⟨g, l, r⟩ := k
  unfold Ky.cs
  go_enter Try.func73, Try.ntmps73
  go_wp2
  all_goals go_ret
  all_goals refine ⟨ret_bool ?_, (Chg.refl [] w).alloc _⟩
  all_goals (unfold Ky.right; simp only [beq_iff_eq, beq_eq_false_iff_ne, ne_eq] at *; rw [Bool.eq_iff_iff]; simp only [decide_eq_true_eq, Bool.false_eq_true, false_iff]; omega)

set_option maxRecDepth 100000 in
set_option maxHeartbeats 1000000 in
theorem Sword_any (x : Slt) (f : Int) (w : World) : Calls Try.prog 83 #[.agg x.cl.toArray, .int .i64 f] w fun e w' => e = .returned (.int .u64 (wordS x f)) ∧ Chg [] w w' := by
  have hP := fun w' => Put_at (entS x f) w'
  have hw : wordS x f = if x.kind = 0 then 0 else ((putV (entS x f) : Nat) : Int) := rfl
  obtain ⟨kd, to, ⟨rw_, ru, rx⟩⟩ := x
  unfold entS Ent.cs at hP
  simp only at hP hw
  unfold Slt.cl
  unfold entS at hw
  simp only at hw
  generalize (putV _ : Nat) = v at *
  generalize wordS ⟨kd, to, ⟨rw_, ru, rx⟩⟩ f = y at *
  simp only
  go_enter Try.func83, Try.ntmps83
  by_cases hk : kd = 0
  · subst hk
    rw [if_pos rfl] at hw
    go_wp2_with fail
    go_ret
    exact ⟨ret_int hw.symm, (Chg.refl [] w).alloc _⟩
  · rw [if_neg hk] at hw
    go_wp2_with fail
    refine (hP _).mono ?_; rintro e w2 ⟨rfl, y2⟩
    go_wp2_with fail
    go_ret
    exact ⟨ret_int hw.symm, ((Chg.refl [] w).alloc _).trans y2 (by simp)⟩

section
variable {q hp hb n a m fp mp : Nat} {s : Sr} {FS B : List Nat} {v : Value}
set_option maxRecDepth 100000 in
set_option maxHeartbeats 1000000 in
theorem Shas_any (p i : Int) (w : World) (h : StX w q hp hb n a m s fp mp FS v B) (hp' : -9223372036854775808 ≤ p ∧ p ≤ 9223372036854775807) :
    Calls Try.prog 57 #[.pointer (some ⟨q, 0, none⟩), .int .i64 p, .int .i64 i] w fun e w' => e = .returned (.bool (hasS s p i)) ∧ w = w' := by
  obtain ⟨c0, c1, c2, c3⟩ := h.c4
  have hL := h.look p hp'
  have hF := blkF_none (f := p) h.bl
  have hS : hasS s p i = ((pgAt s.L p).isSome && decide (0 ≤ i ∧ i ≤ 7)) := rfl
  clear h
  generalize hasS s p i = z at *
  generalize pgAt s.L p = o at *
  cases e : blkF s.L B p with
  | none =>
    rw [hF.1 e] at hS
    rw [e] at hL
    replace hS := Lib.hid hS
    clear hF e
    unfold ptrO at hL
    go_enter Try.func57, Try.ntmps57
    go_wp2
    all_goals go_ret
    all_goals exact ⟨ret_bool (by rw [hS.out]; rfl), rfl⟩
  | some b =>
    have ho : o.isSome = true := by cases o with
      | none => rw [hF.2 rfl] at e; cases e
      | some _ => rfl
    rw [ho, Bool.true_and] at hS
    rw [e] at hL
    replace hS := Lib.hid hS
    clear hF e ho
    unfold ptrO at hL
    go_enter Try.func57, Try.ntmps57
    go_wp2
    all_goals go_ret
    all_goals exact ⟨ret_bool (by rw [hS.out, Bool.eq_iff_iff]; simp only [decide_eq_true_eq, Bool.false_eq_true, false_iff]; omega), rfl⟩

set_option maxRecDepth 100000 in
set_option maxHeartbeats 1000000 in
theorem Sleft_any (w : World) (h : StX w q hp hb n a m s fp mp FS v B) :
    Calls Try.prog 23 #[.pointer (some ⟨q, 0, none⟩)] w fun e w' => e = .returned (.int .i64 s.fr.length) ∧ Chg [] w w' := by
  obtain ⟨c0, c1, c2, c3⟩ := h.c4
  have hF := FLeft_at FS fp a m s.fr w h.fl
  clear h
  go_enter Try.func23, Try.ntmps23
  go_wp2_with fail
  refine hF.mono ?_; rintro e w2 ⟨rfl, y, rfl⟩
  go_wp2_with fail
  go_ret
  exact ⟨rfl, (Chg.refl [] w).drewN _⟩

/-- the key of a page -/
def keyV (L : List Pg) (p : Int) : Ky := ((pgAt L p).map Pg.k).getD ⟨0, 0, 0⟩
set_option maxRecDepth 100000 in
set_option maxHeartbeats 1000000 in
theorem Skey_any (p : Int) (w : World) (h : StX w q hp hb n a m s fp mp FS v B) (hp' : -9223372036854775808 ≤ p ∧ p ≤ 9223372036854775807) :
    Calls Try.prog 19 #[.pointer (some ⟨q, 0, none⟩), .int .i64 p] w fun e w' => e = .returned (.tuple #[.agg (keyV s.L p).cs, .bool (pgAt s.L p).isSome]) ∧ Chg [] w w' := by
  have y0 := (Chg.refl [] w).alloc (.cells #[.int .i64 0, .int .i64 0, .int .i64 0] 24)
  replace h := h.new y0
  obtain ⟨c0, c1, c2, c3⟩ := h.c4
  have hL := h.look p hp'
  have hF := blkF_none (f := p) h.bl
  have hG := @StX.at_ _ _ _ _ _ _ _ _ _ _ _ _ _ h p
  clear h
  unfold keyV
  cases e : pgAt s.L p with
  | none =>
    rw [hF.2 e] at hL
    clear hF e hG
    unfold ptrO at hL
    simp only [Option.map_none, Option.getD_none, Option.isSome_none, Ky.cs]
    go_enter Try.func19, Try.ntmps19
    go_wp2_with fail
    exact bodyPost_ret (cellS_ret rfl (Blk.new _ _ _) rfl rfl Try.underlying24 rfl (by kernel_rfl)) rfl ⟨rfl, (Chg.refl [] w).alloc _⟩
  | some g =>
    obtain ⟨i, b, h1, h2, h3, h4, h5⟩ := hG e
    rw [h3] at hL
    obtain ⟨d0, d1, d2, d3⟩ := h4.head
    clear hF e hG h1 h2 h3 h4
    unfold ptrO at hL
    simp only [Option.map_some, Option.getD_some, Option.isSome_some, Ky.cs]
    go_enter Try.func19, Try.ntmps19
    go_wp2_with fail
    exact bodyPost_ret (cellS_ret rfl (Blk.new _ _ _) rfl rfl Try.underlying24 rfl (by kernel_rfl)) rfl ⟨rfl, (Chg.refl [] w).alloc _⟩

/-- a slot of a page -/
def slotV (L : List Pg) (p i : Int) : Slt := (slotP L p i).getD Slt.no
theorem slotP_some {L : List Pg} {p i : Int} (h8 : ∀ q ∈ L, q.s.length = 8) : (slotP L p i).isSome = ((pgAt L p).isSome && decide (0 ≤ i ∧ i ≤ 7)) := by
  unfold slotP
  by_cases h : 0 ≤ i ∧ i ≤ 7
  · rw [if_pos h, decide_eq_true h, Bool.and_true]
    cases e : pgAt L p with
    | none => rfl
    | some q =>
      rw [Option.bind_some, List.getElem?_eq_getElem (by rw [h8 q (pgAt_mem e).1]; omega)]; rfl
  · rw [if_neg h, decide_eq_false h, Bool.and_false]; rfl
set_option maxRecDepth 100000 in
set_option maxHeartbeats 1000000 in
theorem Sslot_any (p i : Int) (w : World) (h : StX w q hp hb n a m s fp mp FS v B) (hp' : -9223372036854775808 ≤ p ∧ p ≤ 9223372036854775807) :
    Calls Try.prog 21 #[.pointer (some ⟨q, 0, none⟩), .int .i64 p, .int .i64 i] w fun e w' => e = .returned (.tuple #[.agg (slotV s.L p i).cl.toArray, .bool (slotP s.L p i).isSome]) ∧ Chg [] w w' := by
  have y0 := (Chg.refl [] w).alloc (.cells #[.int .i64 0, .int .i64 0, .bool false, .bool false, .bool false] 45)
  replace h := h.new y0
  obtain ⟨c0, c1, c2, c3⟩ := h.c4
  have hH := Shas_any p i _ h hp'
  have hL := h.look p hp'
  have hG := @StX.at_ _ _ _ _ _ _ _ _ _ _ _ _ _ h p
  have hS : (slotP s.L p i).isSome = hasS s p i := slotP_some h.e8
  have h8 := h.e8
  clear h
  unfold slotV
  cases e : slotP s.L p i with
  | none =>
    rw [e] at hS
    rw [← hS] at hH
    clear hL hG hS e
    simp only [Option.getD_none, Option.isSome_none, Slt.cl, Slt.no] at *
    go_enter Try.func21, Try.ntmps21
    go_wp2_with fail
    refine hH.mono ?_; rintro e w2 ⟨rfl, rfl⟩
    go_wp2_with fail
    exact bodyPost_ret (cellS_ret rfl (Blk.new _ _ _) rfl rfl Try.underlying45 rfl (by kernel_rfl)) rfl ⟨rfl, (Chg.refl [] w).alloc _⟩
  | some x =>
    rw [e] at hS
    rw [← hS] at hH
    obtain ⟨g, e1, i0, i7, e2⟩ := slotP_has e
    obtain ⟨j, b, h1, h2, h3, h4, h5⟩ := hG e1
    obtain ⟨k, rfl⟩ := Int.eq_ofNat_of_zero_le i0
    rw [Int.toNat_natCast] at e2
    rw [h3] at hL
    have hk : k < 8 := by omega
    obtain ⟨d0, d1, d2, d3, d4⟩ := sltAt5 (h4.slot e2)
    clear hG h1 h2 h3 h4 h5 hS e e1 e2
    unfold ptrO at hL
    simp only [Option.getD_some, Option.isSome_some, Slt.cl, Slt.no] at *
    go_enter Try.func21, Try.ntmps21
    go_wp2_with fail
    refine hH.mono ?_; rintro e w2 ⟨rfl, rfl⟩
    go_wp2_with fail
    exact bodyPost_ret (cellS_ret rfl (Blk.new _ _ _) rfl rfl Try.underlying45 rfl (by kernel_rfl)) rfl ⟨rfl, (Chg.refl [] w).alloc _⟩
end

end Go.Proofs.Ytpmfooeifhhfkaa
