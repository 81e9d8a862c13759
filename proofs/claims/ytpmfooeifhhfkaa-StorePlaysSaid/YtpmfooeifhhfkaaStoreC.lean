/-
  The contracts of package store's lay and empty.
-/
import Derived.Test.YtpmfooeifhhfkaaStoreB
namespace Go.Proofs.Ytpmfooeifhhfkaa
open Go.RowKit Go.Maps

/-- in a region that draws its order, ahead of its one store: 'm[f]' -/
theorem still_look {P : Program} {w : World} {K : Act → Prop} {op : Oper} {a : Act} (t : TypeId) (m x : Operand) (ho : op.op = Op.lookup t m x false) (b : Nat) (hm : a.eval m = .map (some b)) (k v : Value) (hx : a.eval x = k)
    (hr : (Instr.lookup t (.map (some b)) k false).run P w = .ok v w) (h : K (a.put op.dst v)) : op.still P a w K := by
  unfold Oper.still execOp
  simp only [ho, hm, hx, hr, Sem.run_bind, Sem.run_pure, Result.andThen_ok]
  exact ⟨rfl, h⟩

theorem MemAt.new_ {p b n : Nat} {L : List Int} {w w' : World} (h : MemAt w p b n L) (hc : Chg [] w w') : MemAt w' p b n L := ⟨h.st.chg_ hc (by simp), h.ws.chg_ hc (by simp), h.len, h.pos, h.le⟩
theorem chg_two {w a b c : World} {g h : Nat} (h1 : Chg [g] w a) (h2 : Chg [] a b) (h3 : Chg [h] b c) : Chg [h, g] w c :=
  ((h1.weak (T := [h, g]) (fun k _ h => by simp at h; simp [h])).trans h2 (by simp)).trans h3 (fun k _ h => by simp at h; simp [h])
theorem Blk.rng {w : World} {g : Nat} {t : TypeId} {cs : List Value} (h : Blk w g t cs.toArray) : w.rangeAt g 0 cs := fun j v hv => by
  rw [h.cell]; simpa using hv

section
variable {q hp hb n a m fp mp : Nat} {s : Sr} {FS B : List Nat} {v : Value}
/-- a slot, and its word, have turned -/
theorem StX.laid {w w' : World} (h : StX w q hp hb n a m s fp mp FS v B) {p : Int} {k : Nat} {g : Pg} {i b : Nat} {x : Slt} {W : List Int} (hi : s.L[i]? = some g) (hb' : B[i]? = some b) (hg : g.f = p) (y : Chg [hb, b] w w')
    (hP : PgB w' b ⟨g.f, g.k, g.s.set k x⟩) (hM : MemAt w' hp hb n W) : StX w' q hp hb n a m ⟨setP s.L p k x, s.fr, W⟩ fp mp FS v B := by
  have hH := h.host
  have hbB : b ∈ B := List.mem_of_getElem? hb'
  obtain ⟨n1, n2, n3, n4, n5, n6, n7, n8, n9, n10, n11⟩ := h.ne
  have hm := setP_map (L := s.L) p k x
  have hset : ∀ j : Nat, (setP s.L p k x)[j]? = (s.L[j]?).map fun r => if r.f = p then { r with s := r.s.set k x } else r := fun j => by unfold setP; rw [List.getElem?_map]
  refine ⟨y.blk h.st ?_, h.fl.chg y ?_, ?_, ?_, ?_, h.nb, ?_, hM, ?_, ?_, ?_, h.fs, h.hs⟩
  · simp; exact ⟨fun e => n6 e.symm, fun e => n3 (e ▸ hbB)⟩
  · intro j hj hm
    simp only [List.mem_cons, List.not_mem_nil, or_false] at hm
    rcases hm with rfl | rfl
    · exact h.hs.2 hj
    · exact h.fs.2.2.2 _ hbB hj
  · rw [hm.2.2]
    refine (h.mp_.chg y ?_).congr fun f => blkF_congr hm.1.symm
    simp; exact ⟨fun e => n8 e.symm, fun e => n4 (e ▸ hbB)⟩
  · show OwnI w' _ _ v ((setP s.L p k x).map Pg.f)
    rw [hm.1]
    refine h.od.chg y fun j hj hm => ?_
    simp only [List.mem_cons, List.not_mem_nil, or_false] at hm
    rcases hm with rfl | rfl
    · exact (n2 _ hj).2.2.2.2 rfl
    · exact (n2 _ hj).2.2.1 hbB
  · rw [hm.2.2]; exact h.bl
  · intro j r c hr hc
    rw [hset] at hr
    cases e : s.L[j]? with
    | none => rw [e] at hr; cases hr
    | some r0 =>
      rw [e, Option.map_some] at hr
      injection hr with hr
      by_cases hji : j = i
      · subst hji
        rw [hi] at e; injection e with e; subst e
        rw [hb'] at hc; injection hc with hc; subst hc
        rw [if_pos hg] at hr
        rw [← hr]; exact hP
      · have hne : r0.f ≠ p := fun e2 => hji (by
          have h1 := (List.getElem?_eq_some_iff.1 e); have h2 := (List.getElem?_eq_some_iff.1 hi)
          obtain ⟨l1, e1⟩ := h1; obtain ⟨l2, e3⟩ := h2
          have := h.nd
          have e4 : (s.L.map Pg.f)[j]'(by simpa using l1) = (s.L.map Pg.f)[i]'(by simpa using l2) := by simp only [List.getElem_map]; rw [e1, e3, e2, hg]
          exact (List.getElem_inj this).1 e4)
        rw [if_neg hne] at hr
        subst hr
        refine y.blk (h.pg j r0 c e hc) ?_
        have hcb : c ≠ b := fun e2 => hji (by
          subst e2
          obtain ⟨l1, e1⟩ := List.getElem?_eq_some_iff.1 hc
          obtain ⟨l2, e3⟩ := List.getElem?_eq_some_iff.1 hb'
          exact (List.getElem_inj h.nb).1 (e1.trans e3.symm))
        simp; exact ⟨fun e2 => n10 (e2 ▸ List.mem_of_getElem? hc), hcb⟩
  · show ((setP s.L p k x).map Pg.f).Nodup
    rw [hm.1]; exact h.nd
  · intro r hr
    obtain ⟨r0, h1, h2, _⟩ := mem_setP hr
    rw [h2]; exact h.ge r0 h1
  · intro r hr
    obtain ⟨r0, h1, h2, _, h3⟩ := mem_setP hr
    rw [h3]
    split
    · rw [List.length_set]; exact h.e8 r0 h1
    · exact h.e8 r0 h1

set_option maxRecDepth 100000 in
set_option maxHeartbeats 4000000 in
theorem Slay_any (p i : Int) (x : Slt) (f : Int) (w : World) (h : StX w q hp hb n a m s fp mp FS v B) (hs : hasS s p i = true) :
    Calls Try.prog 75 #[.pointer (some ⟨q, 0, none⟩), .int .i64 p, .int .i64 i, .agg x.cl.toArray, .int .i64 f] w fun e w' => e = .returned (.tuple #[]) ∧ StX w' q hp hb n a m (setS n s p i x f) fp mp FS v B ∧ Chg (hb :: B) w w' := by
  have hs' := hs
  unfold hasS at hs'
  rw [Bool.and_eq_true, decide_eq_true_eq] at hs'
  obtain ⟨h1, i0, i7⟩ := hs'
  obtain ⟨g, hg⟩ := Option.isSome_iff_exists.1 h1
  obtain ⟨j, b, g1, g2, g3, g4, g5⟩ := h.at_ hg
  obtain ⟨k, rfl⟩ := Int.eq_ofNat_of_zero_le i0
  have hk : k < 8 := by omega
  have hkz : (k : Int) < 8 := by omega
  have hgm := h.ge g (pgAt_mem hg).1
  have hn := h.hm.le
  have y0 := (Chg.refl [] w).alloc (.cells x.cl.toArray 45)
  have hx := Blk.new w 45 x.cl.toArray
  have h' := h.new y0
  obtain ⟨c0, c1, c2, c3⟩ := h'.c4
  have hL := (h'.new (Chg.refl [] _).drew).look p (by omega)
  rw [g3] at hL
  have hpb : PgB (w.alloc (.cells x.cl.toArray 45)) b g := h'.pg j g b g1 g2
  have hW := fun w' => Sword_any x f w'
  have ht : (w.alloc (.cells x.cl.toArray 45)).drew.there b (4 + k * 5) 5 := Blk.there (w := (w.alloc (.cells x.cl.toArray 45)).drew) hpb.drew (4 + k * 5) 5 (by rw [List.size_toArray, g.cl_len, h.e8 g (pgAt_mem hg).1]; omega)
  unfold ptrO at hL
  have hstore := fun (w' : World) (P : PgB w' b g) => PgB.set5 P (i := k) (by rw [h.e8 g (pgAt_mem hg).1]; exact hk) x
  obtain ⟨kd, to, ⟨rw_, ru, rx⟩⟩ := x
  simp only [Slt.cl] at *
  generalize hw1 : w.alloc (.cells (#[.int .i64 kd, .int .i64 to, .bool rw_, .bool ru, .bool rx]) 45) = w1 at *
  have x0 := hx.cell 0; have x1 := hx.cell 1; have x2 := hx.cell 2; have x3 := hx.cell 3; have x4 := hx.cell 4
  simp only [List.getElem?_toArray, List.getElem?_cons_zero, List.getElem?_cons_succ] at x0 x1 x2 x3 x4
  go_enter Try.func75, Try.ntmps75
  go_wp2_with fail
  refine wp_region_still_tail 11 (by kernel_rfl) (by kernel_rfl) ?_
  simp only [List.take_succ_cons, List.take_zero, List.drop_succ_cons, List.drop_zero]
  change wpStill _ _ (World.drew _) _ _ _
  iterate 5 still_step
  refine wpStill_plain rfl (fun K hK => ?_)
  refine still_look 88 _ _ rfl mp rfl _ _ rfl hL (hK _ ?_)
  clear hK K
  still_step
  refine wpStill_plain rfl (fun K hK => ?_)
  refine still_load_mid 45 _ rfl w.heap.size 0 rfl [.int .i64 kd, .int .i64 to, .bool rw_, .bool ru, .bool rx] _ (hx.drew.rng) Try.underlying45 rfl (by kernel_rfl) (hK _ ?_)
  clear hK K
  iterate 3 still_step
  refine wpStill_nil ?_
  refine wpList_store_mid rfl 45 _ _ rfl b (4 + k * 5) #[.int .i64 kd, .int .i64 to, .bool rw_, .bool ru, .bool rx] rfl rfl ht (by kernel_rfl) (by simp [Value.oneCell']) ?_
  clear ht
  have P2 := hstore w1.drew hpb.drew
  have y2 : Chg [b] w (set5 w1.drew b (4 + k * 5) ⟨kd, to, ⟨rw_, ru, rx⟩⟩) := (y0.drew.weak (by simp)).trans (chg_set5 _ _ _ _) (by simp)
  have hne := h.ne
  have hbB : b ∈ B := List.mem_of_getElem? g2
  have q2 := h.st.chg_ y2 (by simp; exact fun e => hne.2.2.1 (e ▸ hbB))
  have x5 := hx.drew.chg_ (chg_set5 w1.drew b (4 + k * 5) ⟨kd, to, ⟨rw_, ru, rx⟩⟩) (by simp; have := Blk.lt (h.pg j g b g1 g2); omega)
  have m2 : MemAt (set5 w1.drew b (4 + k * 5) ⟨kd, to, ⟨rw_, ru, rx⟩⟩) hp hb n s.W := ⟨h.hm.st.chg_ y2 (by simp; exact fun e => hne.2.2.2.2.2.2.2.2.1 (e ▸ hbB)), h.hm.ws.chg_ y2 (by simp; exact fun e => hne.2.2.2.2.2.2.2.2.2.1 (e ▸ hbB)), h.hm.len, h.hm.pos, h.hm.le⟩
  change wpList _ _ _ _ _ (set5 w1.drew b (4 + k * 5) ⟨kd, to, ⟨rw_, ru, rx⟩⟩)
  generalize set5 w1.drew b (4 + k * 5) ⟨kd, to, ⟨rw_, ru, rx⟩⟩ = w2 at *
  clear hL c0 c1 c2 c3 x0 x1 x2 x3 x4
  have c0 := q2.cell 0
  have x0 := x5.cell 0; have x1 := x5.cell 1; have x2 := x5.cell 2; have x3 := x5.cell 3; have x4 := x5.cell 4
  simp only [List.getElem?_toArray, List.getElem?_cons_zero, List.getElem?_cons_succ] at x0 x1 x2 x3 x4 c0
  have hset := fun w' (M : MemAt w' hp hb n s.W) => Set_at hp hb n s.W p k (wordS ⟨kd, to, ⟨rw_, ru, rx⟩⟩ f) w' M
  have hend := fun (w' : World) (y : Chg [hb, b] w w') (P : PgB w' b ⟨g.f, g.k, g.s.set k ⟨kd, to, ⟨rw_, ru, rx⟩⟩⟩) (M : MemAt w' hp hb n (setW n s.W p k (wordS ⟨kd, to, ⟨rw_, ru, rx⟩⟩ f))) => h.laid (x := ⟨kd, to, ⟨rw_, ru, rx⟩⟩) g1 g2 g5 y P M
  have hpb2 : hb ≠ b := fun e => hne.2.2.2.2.2.2.2.2.2.1 (e ▸ hbB)
  have hxb : w.heap.size ≠ hb := by have := h.hm.ws.lt; omega
  have hqb : q ≠ hb := fun e => hne.2.2.2.2.2.1 e.symm
  clear hstore h h' hne g1 g2 g3 g4 g5 hpb hx hg h1 hs
  go_wp2_with fail
  refine wp_region_noPanic ?_
  refine wp_region_held_drew (S := (fun w' => Chg [hb] w2 w')) (by kernel_rfl) ?_ (fun hHeld => ?_)
  · exact ((Chg.refl [hb] w2).drew)
  (refine take_on 0 (some 21) (v := ?_) rfl rfl (by kernel_rfl) (by kernel_rfl) (by kernel_rfl) (fun _ _ _ h => h) (by rfl) (by assumption) ?_ ?_; rotate_left; · (intro w hSw; go_simp; (try with_reducible rfl)))
  (try simp only [Act.put, List.setIfInBounds_toArray, List.set_cons_zero, List.set_cons_succ])
  (refine take_on 1 (some 22) (v := ?_) rfl rfl (by kernel_rfl) (by kernel_rfl) (by kernel_rfl) (fun _ _ _ h => h) (by rfl) (by assumption) ?_ ?_; rotate_left; · (intro w hSw; go_simp; (try with_reducible rfl)))
  (try simp only [Act.put, List.setIfInBounds_toArray, List.set_cons_zero, List.set_cons_succ])
  (refine take_on 2 (some 23) (v := ?_) rfl rfl (by kernel_rfl) (by kernel_rfl) (by kernel_rfl) (fun _ _ _ h => h) (by rfl) (by assumption) ?_ ?_; rotate_left; · (intro w hSw; go_simp; (try with_reducible rfl)))
  (try simp only [Act.put, List.setIfInBounds_toArray, List.set_cons_zero, List.set_cons_succ])
  (refine take_on 3 (some 24) (v := ?_) rfl rfl (by kernel_rfl) (by kernel_rfl) (by kernel_rfl) (fun _ _ _ h => h) (by rfl) (by assumption) ?_ ?_; rotate_left; · (intro w hSw; (try dsimp only at hSw); have b_ := q2.chg_ hSw (by simp; exact hqb); have d0 := b_.cell 0; simp only [List.getElem?_toArray, List.getElem?_cons_zero] at d0; go_simp; (try with_reducible rfl)))
  (try simp only [Act.put, List.setIfInBounds_toArray, List.set_cons_zero, List.set_cons_succ])
  (refine take_on 4 (some 25) (v := ?_) rfl rfl (by kernel_rfl) (by kernel_rfl) (by kernel_rfl) (fun _ _ _ h => h) (by rfl) (by assumption) ?_ ?_; rotate_left; · (intro w hSw; go_simp; (try with_reducible rfl)))
  (try simp only [Act.put, List.setIfInBounds_toArray, List.set_cons_zero, List.set_cons_succ])
  (refine take_on 5 (some 26) (v := ?_) rfl rfl (by kernel_rfl) (by kernel_rfl) (by kernel_rfl) (fun _ _ _ h => h) (by rfl) (by assumption) ?_ ?_; rotate_left; · (intro w hSw; go_simp; (try with_reducible rfl)))
  (try simp only [Act.put, List.setIfInBounds_toArray, List.set_cons_zero, List.set_cons_succ])
  (refine take_on 6 (some 27) (v := ?_) rfl rfl (by kernel_rfl) (by kernel_rfl) (by kernel_rfl) (fun _ _ _ h => h) (by rfl) (by assumption) ?_ ?_; rotate_left; · (intro w hSw; (try dsimp only at hSw); have b_ := x5.chg_ hSw (by simp; exact hxb); have d0 := b_.cell 0; have d1 := b_.cell 1; have d2 := b_.cell 2; have d3 := b_.cell 3; have d4 := b_.cell 4; simp only [List.getElem?_toArray, List.getElem?_cons_zero, List.getElem?_cons_succ] at d0 d1 d2 d3 d4; go_simp; (try with_reducible rfl)))
  (try simp only [Act.put, List.setIfInBounds_toArray, List.set_cons_zero, List.set_cons_succ])
  (refine take_on 7 (some 28) (v := ?_) rfl rfl (by kernel_rfl) (by kernel_rfl) (by kernel_rfl) (fun _ _ _ h => h) (by rfl) (by assumption) ?_ ?_; rotate_left; · (intro w hSw; go_simp; (try with_reducible rfl)))
  (try simp only [Act.put, List.setIfInBounds_toArray, List.set_cons_zero, List.set_cons_succ])
  refine wpAnyH_ready (rs := [8]) (by kernel_rfl) (by simp) ?_; refine AllReadyH.cons (o := _) rfl (fun K hK => ?_) AllReadyH.nil
  go_simp
  (go_at_call 83; refine (hW _).mono ?_; rintro e u1 ⟨rfl, y1⟩; have y1 : Chg [] w2 u1 := (Chg.refl [] w2).drew.trans y1 (by simp))
  refine hK.out _ _ (by (try dsimp only); exact y1.weak (by simp)) (fun hHeld => ?_)
  clear hK K
  (try simp only [Act.put, List.setIfInBounds_toArray, List.set_cons_zero, List.set_cons_succ])
  refine wpAnyH_ready (rs := [9]) (by kernel_rfl) (by simp) ?_; refine AllReadyH.cons (o := _) rfl (fun K hK => ?_) AllReadyH.nil
  go_simp
  (go_at_call 38; refine (hset _ (m2.new_ y1)).mono ?_; rintro e u2 ⟨rfl, y2_, m4⟩)
  refine hK.out _ _ (by (try dsimp only); exact hHeld.trans y2_ (by simp)) (fun hHeld => ?_)
  clear hK K
  (try simp only [Act.put, List.setIfInBounds_toArray, List.set_cons_zero, List.set_cons_succ])
  refine wpAnyH_done (by kernel_rfl) ?_ _
  refine NoPanic.normal ?_
  go_wp2_with fail
  go_end0
  have yy := chg_two y2 y1 y2_
  exact ⟨rfl, hend _ yy (Blk.chg_ (Blk.chg_ P2 y1 (by simp)) y2_ (by simp; exact fun e => hpb2 e.symm)) m4, yy.weak (fun k _ h => by simp only [List.mem_cons, List.not_mem_nil, or_false] at h; rcases h with rfl | rfl <;> simp [hbB])⟩

/-- the first k slots of a page are laid empty -/
def emptyS (n : Nat) (s : Sr) (p : Int) : Nat → Sr
  | 0 => s
  | k + 1 => setS n (emptyS n s p k) p k Slt.no 0
theorem empty_has (n : Nat) (s : Sr) (p : Int) (i : Int) : ∀ k, hasS (emptyS n s p k) p i = hasS s p i
  | 0 => rfl
  | k + 1 => by
    rw [← empty_has n s p i k]
    show hasS (setS n _ p k Slt.no 0) p i = _
    unfold hasS
    rw [setS_L, some_setP]

set_option maxRecDepth 100000 in
set_option maxHeartbeats 2000000 in
theorem Sempty_any (p : Int) (w : World) (h : StX w q hp hb n a m s fp mp FS v B) (hs : (pgAt s.L p).isSome = true) :
    Calls Try.prog 69 #[.pointer (some ⟨q, 0, none⟩), .int .i64 p] w fun e w' => e = .returned (.tuple #[]) ∧ StX w' q hp hb n a m (emptyS n s p 8) fp mp FS v B ∧ Chg (hb :: B) w w' := by
  have hlay := fun (k : Nat) (hk : k < 8) (w' : World) (H : StX w' q hp hb n a m (emptyS n s p k) fp mp FS v B) => Slay_any p k Slt.no 0 w' H (by rw [empty_has]; unfold hasS; rw [hs]; simp; omega)
  simp only [Slt.cl, Slt.no] at hlay
  go_enter Try.func69, Try.ntmps69
  go_wp2_with fail
  go_loopw [5] (fun s5 wr => ∃ k : Nat, k ≤ 8 ∧ s5 = .int .i64 k ∧ StX wr q hp hb n a m (emptyS n s p k) fp mp FS v B ∧ Chg (hb :: B) w wr) (fun s5 _ => 8 - (intOf s5).toNat)
  case atStart => exact ⟨0, by omega, rfl, h, Chg.refl _ _⟩
  case round =>
    obtain ⟨k, hk, rfl, H, y⟩ := hrel
    clear h
    by_cases hlt : k < 8
    · have hz : (k : Int) < 8 := by omega
      go_wp2_with fail
      refine (hlay k hlt wr H).mono ?_; rintro e w2 ⟨rfl, H2, y2⟩
      clear hlay H
      go_wp2_with fail
      go_roundw
      case rel => exact ⟨k + 1, by omega, by go_num, H2, y.trans y2 (fun _ _ h => h)⟩
      case measure => simp [intOf]; omega
    · have hz : ¬ (k : Int) < 8 := by omega
      obtain rfl : k = 8 := by omega
      clear hlay
      go_wp2_with fail
      go_end0
      exact ⟨rfl, H, y⟩
end

end Go.Proofs.Ytpmfooeifhhfkaa
