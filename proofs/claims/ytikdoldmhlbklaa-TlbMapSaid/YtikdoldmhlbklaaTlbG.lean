/-
  The contracts of tlb's Drop, Put, Get, Flush, Pick, List.
-/
import Derived.Test.YtikdoldmhlbklaaTlbF
namespace Go.Proofs.Ytikdoldmhlbklaa
open Go.RowKit Go.Shelf

theorem cellT_ret {P : Program} {fn : Func} {p q : Tmp} {ty : TypeId} (h : fn.results = #[.cell p ty, .tmp q]) {tmps : Array Value} {w : World} {g : Nat} {t : TypeId} {cs : Array Value} {d : TypeDesc} (hb : Blk w g t cs)
    (hp : tmps.getD p undef = .pointer (some ⟨g, 0, none⟩)) (hu : P.underlying ty = some d) (hd : (match d with | .struct _ | .array _ _ => true | _ => false) = true) (hi : (P.info? ty).map (·.size) = some cs.size) :
    (results fn tmps).run P w = .ok (.tuple #[.agg cs, tmps.getD q undef]) w := by
  have hp' : tmps[p]?.getD undef = .pointer (some ⟨g, 0, none⟩) := by simpa using hp
  simp [results, h, hp', asAddr, run_loadVar_row w g t ty cs (0, 0) d hb hu hd hi]
/-- block g holds this hit -/
def BlkH (w : World) (g : Nat) (h : Ht) : Prop := Blk w g 31 #[.int .i64 h.a, .int .i64 h.p, .int .i64 h.f, .bool h.w, .bool h.u, .bool h.x, .bool h.d]
theorem BlkH.cells {w : World} {g : Nat} {h : Ht} (H : BlkH w g h) : w.cell? ⟨g, 0, none⟩ = some (.int .i64 h.a) ∧ w.cell? ⟨g, 1, none⟩ = some (.int .i64 h.p) ∧ w.cell? ⟨g, 2, none⟩ = some (.int .i64 h.f) ∧ w.cell? ⟨g, 3, none⟩ = some (.bool h.w) ∧ w.cell? ⟨g, 4, none⟩ = some (.bool h.u) ∧ w.cell? ⟨g, 5, none⟩ = some (.bool h.x) ∧ w.cell? ⟨g, 6, none⟩ = some (.bool h.d) :=
  ⟨Blk.cell (t := 31) H 0, Blk.cell (t := 31) H 1, Blk.cell (t := 31) H 2, Blk.cell (t := 31) H 3, Blk.cell (t := 31) H 4, Blk.cell (t := 31) H 5, Blk.cell (t := 31) H 6⟩
theorem BlkH.frozens {w : World} {g : Nat} {h : Ht} (H : BlkH w g h) : w.frozen? ⟨g, 0, none⟩ = false ∧ w.frozen? ⟨g, 1, none⟩ = false ∧ w.frozen? ⟨g, 2, none⟩ = false ∧ w.frozen? ⟨g, 3, none⟩ = false ∧ w.frozen? ⟨g, 4, none⟩ = false ∧ w.frozen? ⟨g, 5, none⟩ = false ∧ w.frozen? ⟨g, 6, none⟩ = false :=
  ⟨Blk.frozen (t := 31) H 0, Blk.frozen (t := 31) H 1, Blk.frozen (t := 31) H 2, Blk.frozen (t := 31) H 3, Blk.frozen (t := 31) H 4, Blk.frozen (t := 31) H 5, Blk.frozen (t := 31) H 6⟩
theorem BlkH.chg {S : List Nat} {w w' : World} {g : Nat} {h : Ht} (H : BlkH w g h) (hc : Chg S w w') (hn : g ∉ S) : BlkH w' g h := hc.blk (t := 31) H hn
theorem BlkH.lt {w : World} {g : Nat} {h : Ht} (H : BlkH w g h) : g < w.heap.size := Blk.lt (t := 31) H
theorem BlkH.set {w : World} {g : Nat} {h : Ht} (H : BlkH w g h) (k : Ht) : BlkH (w.setCells g 0 k.cl) g k := by
  have := ((((((Blk.set_ (t := 31) H 0 (.int .i64 k.a)).set_ 1 (.int .i64 k.p)).set_ 2 (.int .i64 k.f)).set_ 3 (.bool k.w)).set_ 4 (.bool k.u)).set_ 5 (.bool k.x)).set_ 6 (.bool k.d)
  simp only [List.setIfInBounds_toArray, List.set_cons_zero, List.set_cons_succ] at this
  simp only [Ht.cl, World.setCells, Nat.zero_add, Nat.reduceAdd]
  exact this
theorem BlkH.new (w : World) (h : Ht) : BlkH (w.alloc (.cells #[.int .i64 h.a, .int .i64 h.p, .int .i64 h.f, .bool h.w, .bool h.u, .bool h.x, .bool h.d] 31)) w.heap.size h := Blk.new _ _ _
/-- a hit in a block of its own, to be appended -/
theorem BlkH.src {w : World} {g : Nat} {h : Ht} (H : BlkH w g h) : Src w 7 (some ⟨g, 0, none⟩) 1 1 (encH [h]) :=
  ⟨by simp [encH_len], encH_oneCell _, by simp, fun a ha j u hu => by
    injection ha with ha; subst ha
    rw [add_at, Blk.cell (t := 31) H]
    rw [encH_one] at hu
    simpa [Ht.cl] using hu⟩

set_option maxHeartbeats 1000000 in
theorem TDrop_at (S : List Nat) (p most : Nat) (L : List Ht) (a pg : Int) (w : World) (h : TAt w S p most L) :
    Calls Try.prog 13 #[.pointer (some ⟨p, 0, none⟩), .int .i64 a, .int .i64 pg] w fun e w' => e = .returned (.bool (hasT L a pg)) ∧ Chg S w w' ∧ TAt w' S p most (dropT L a pg) := by
  obtain ⟨v, h, rfl⟩ := h
  have hP := place_at p most v L a pg w h
  rcases first_cases (fun h => h.isK a pg) L with ⟨e1, hall⟩ | ⟨k, hk, e1, hq, hmin⟩
  · rw [e1] at hP
    have e2 : hasT L a pg = false := by
      unfold hasT
      rw [List.any_eq_false]
      intro x hx; rw [hall x hx]; simp
    have e3 : dropT L a pg = L := by
      unfold dropT
      rw [List.filter_eq_self]
      intro x hx; simp [hall x hx]
    rw [e2, e3]
    clear hall e1 e2 e3
    go_enter Try.func13, Try.ntmps13
    go_wp2_with fail
    refine hP.mono ?_; rintro e w1 ⟨rfl, hc1⟩
    go_wp2_with fail
    go_ret
    exact ⟨rfl, hc1.weak (by simp), v, h.chg hc1 (by simp) (by simp), rfl⟩
  · rw [e1] at hP
    have e2 : hasT L a pg = true := by
      unfold hasT
      rw [List.any_eq_true]
      exact ⟨_, List.getElem_mem hk, by rw [← getD_lt hk]; exact hq⟩
    rw [e2, ← erase_key h.nd hk hq]
    clear hq hmin e1 e2
    have hk0 : ¬ (k : Int) < 0 := by omega
    go_enter Try.func13, Try.ntmps13
    go_wp2_with fail
    refine hP.mono ?_; rintro e w1 ⟨rfl, hc1⟩
    go_wp2_with fail
    refine (remove_at p most v L k w1 (h.chg hc1 (by simp) (by simp)) hk).mono ?_; rintro e w2 ⟨rfl, hc2, v', h2, hv⟩
    go_wp2_with fail
    go_ret
    exact ⟨rfl, (hc1.weak (by simp)).trans hc2 (by simp), v', h2, by rw [hv]⟩

set_option maxHeartbeats 1000000 in
theorem TGet_at (S : List Nat) (p most : Nat) (L : List Ht) (a pg : Int) (w : World) (h : TAt w S p most L) :
    Calls Try.prog 23 #[.pointer (some ⟨p, 0, none⟩), .int .i64 a, .int .i64 pg] w fun e w' => e = .returned (.tuple #[(getT L a pg).v, .bool (hasT L a pg)]) ∧ Chg [] w w' := by
  obtain ⟨v, h, rfl⟩ := h
  have hc0 : Chg [] w (w.alloc (.cells #[.int .i64 0, .int .i64 0, .int .i64 0, .bool false, .bool false, .bool false, .bool false] 31)) := (Chg.refl [] w).alloc _
  have hR0 : BlkH (w.alloc (.cells #[.int .i64 0, .int .i64 0, .int .i64 0, .bool false, .bool false, .bool false, .bool false] 31)) w.heap.size Ht.zero := BlkH.new w Ht.zero
  have h0 := h.chg hc0 (by simp) (by simp)
  have hP := place_at p most v L a pg _ h0
  rcases first_cases (fun h => h.isK a pg) L with ⟨e1, hall⟩ | ⟨k, hk, e1, hq, hmin⟩
  · rw [e1] at hP
    have e2 : hasT L a pg = false := by
      unfold hasT
      rw [List.any_eq_false]
      intro x hx; rw [hall x hx]; simp
    have e3 : getT L a pg = Ht.zero := by
      unfold getT
      rw [List.find?_eq_none.2 (fun x hx => by simp [hall x hx])]; rfl
    rw [e2, e3]
    clear hall e1 e2 e3
    go_enter Try.func23, Try.ntmps23
    go_wp2_with fail
    refine hP.mono ?_; rintro e w1 ⟨rfl, hc1⟩
    have hR1 := hR0.chg hc1 (by simp)
    obtain ⟨r0, r1, r2, r3, r4, r5, r6⟩ := hR1.cells
    obtain ⟨f0, f1, f2, f3, f4, f5, f6⟩ := hR1.frozens
    simp only [Ht.zero] at r0 r1 r2 r3 r4 r5 r6
    go_wp2_with fail
    refine bodyPost_ret (cellT_ret rfl (hR1.set Ht.zero) rfl Try.underlying31 rfl (by kernel_rfl)) rfl ?_
    exact ⟨rfl, (hc0.trans hc1 (by simp)).trans (Chg.setCells (S := [w.heap.size]) (by simp) Ht.zero.cl 0 _ (Chg.refl _ _)) (by intro k hk hm; simp at hm; omega)⟩
  · rw [e1] at hP
    have e2 : hasT L a pg = true := by
      unfold hasT
      rw [List.any_eq_true]
      exact ⟨_, List.getElem_mem hk, by rw [← getD_lt hk]; exact hq⟩
    have e3 : getT L a pg = L.getD k default := by
      unfold getT
      rw [find_at hk hq hmin]; rfl
    rw [e2, e3]
    clear hq hmin e1 e2 e3
    have hk0 : ¬ (k : Int) < 0 := by omega
    generalize hx : L.getD k default = x at *
    have HX := Lib.hid hx
    clear hx
    have hkz : (k : Int) < (L.length : Int) := by omega
    go_enter Try.func23, Try.ntmps23
    go_wp2_with fail
    refine hP.mono ?_; rintro e w1 ⟨rfl, hc1⟩
    have hR1 := hR0.chg hc1 (by simp)
    obtain ⟨r0, r1, r2, r3, r4, r5, r6⟩ := hR1.cells
    obtain ⟨f0, f1, f2, f3, f4, f5, f6⟩ := hR1.frozens
    simp only [Ht.zero] at r0 r1 r2 r3 r4 r5 r6
    have h1 := h0.chg hc1 (by simp) (by simp)
    obtain ⟨d0, d1⟩ := h1.c
    obtain ⟨g, c, rfl⟩ := h1.ow.pos_ (by omega)
    obtain ⟨tl, hrow, _⟩ := h1.ow.row
    have hh := hrow.hit hk
    rw [HX.out] at hh
    obtain ⟨b0, b1, b2, b3, b4, b5, b6⟩ := hh
    clear hrow h h0 hP h1
    go_wp2_with fail
    refine bodyPost_ret (cellT_ret rfl (hR1.set x) rfl Try.underlying31 rfl (by kernel_rfl)) rfl ?_
    exact ⟨rfl, (hc0.trans hc1 (by simp)).trans (Chg.setCells (S := [w.heap.size]) (by simp) x.cl 0 _ (Chg.refl _ _)) (by intro k hk hm; simp at hm; omega)⟩

set_option maxHeartbeats 1000000 in
theorem TList_at (S : List Nat) (p most : Nat) (L : List Ht) (w : World) (h : TAt w S p most L) :
    Calls Try.prog 26 #[.pointer (some ⟨p, 0, none⟩)] w fun e w' => ∃ v, e = .returned v ∧ Chg [] w w' ∧ OwnH w' v L ∧ ∀ g ∈ v.ownBlock.toList, w.heap.size ≤ g := by
  obtain ⟨v, h, rfl⟩ := h
  obtain ⟨c0, c1⟩ := h.c
  obtain ⟨A, c, rfl, hA, _⟩ := h.ow.form
  have hC := clone_any A L.length c L w h.ow.slh hA (by have := h.le; have := h.hi; omega)
  clear h hA
  go_enter Try.func26, Try.ntmps26
  go_wp2_with fail
  refine hC.mono ?_; rintro e w1 ⟨v', rfl, hc1, h1, hg⟩
  obtain ⟨A', c', rfl, _, _⟩ := h1.form
  go_wp2_with fail
  go_ret
  exact ⟨_, rfl, hc1, h1, hg⟩

set_option maxHeartbeats 1000000 in
theorem TFlush_at (S : List Nat) (p most : Nat) (L : List Ht) (a : Int) (w : World) (h : TAt w S p most L) :
    Calls Try.prog 15 #[.pointer (some ⟨p, 0, none⟩), .int .i64 a] w fun e w' => e = .returned (.tuple #[]) ∧ Chg S w w' ∧ TAt w' S p most (flushT L a) := by
  obtain ⟨v, h, rfl⟩ := h
  have hlt := h.st.lt
  have hp : p ≠ w.heap.size := Nat.ne_of_lt hlt
  have hkb := (Blk.new w 3 #[.int .i64 a]).cell 0
  simp only [List.getElem?_toArray, List.getElem?_cons_zero] at hkb
  have hc0 : Chg [] w (w.alloc (.cells #[.int .i64 a] 3)) := (Chg.refl [] w).alloc _
  have h0 := h.chg hc0 (by simp) (by simp)
  have hvlt := h.ow.lt
  have eg : ∀ args w, (callFunc 33 args).run Try.prog w = .ok (.enter 33 args) w := enters_of Try.func33 (by kernel_rfl) rfl
  have hI := deleteFunc_any (fun h => h.a == a) 33 w.heap.size eg v L _
    (fun x W hc => flushP_any x w.heap.size a W ((hc.cell (p := ⟨w.heap.size, 0, none⟩) (by simp) (fun hm => Nat.lt_irrefl _ (hvlt w.heap.size hm))).trans hkb)) h0.ow
  obtain ⟨c0, c1⟩ := h0.c
  have hst := h0.st
  have hne := h0.ne
  have hle := h.le; have hlo := h.lo; have hhi := h.hi; have hnd := h.nd
  clear h h0 eg hkb
  have hgp : p ∉ v.ownBlock.toList := fun hm => hne p hm rfl
  go_enter Try.func15, Try.ntmps15
  go_wp2_with fail
  refine hI.mono ?_; rintro e w1 ⟨v', rfl, hc1, h1, hv⟩
  obtain ⟨A', c', rfl, _, _⟩ := h1.form
  have hst1 := hc1.blk hst hgp
  have f1 := hst1.frozen 1
  have d1 := hst1.cell 1
  simp only [List.getElem?_toArray, List.getElem?_cons_succ, List.getElem?_cons_zero] at d1
  clear c0 c1
  go_wp2_with fail
  go_end0
  have hcl : Chg [p] w1 (w1.setCell ⟨p, 1, none⟩ (.slice A' (List.filter (fun h => !(h.a == a)) L).length c')) := (Chg.refl _ _).setCell (by simp) _
  refine ⟨rfl, ((hc0.weak (by simp)).trans (hc1.weak (T := p :: v.ownBlock.toList) (by intro k _ hk; exact List.mem_cons_of_mem _ hk)) (fun _ _ h => h)).trans hcl (by intro k _ hk; simp at hk; subst hk; simp), .slice A' (List.filter (fun h => !(h.a == a)) L).length c', ⟨hst1.set_ 1 _, h1.chg hcl (by rw [hv]; intro g hg hm; simp at hm; subst hm; exact hgp hg), Nat.le_trans (List.length_filter_le _ _) hle, hlo, hhi, hnd.sub List.filter_sublist⟩, by rw [hv]⟩

end Go.Proofs.Ytikdoldmhlbklaa
