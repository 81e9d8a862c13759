/-
  The program's host's machine, beside others: New, Walk, Access, Find.
-/
import Derived.Test.YtfckedecpflldaaMmuT
namespace Go.Proofs.Ytfckedecpflldaa
open Go.RowKit

section
variable {w0 w : World} {l : List Th} {m hp hb t n most : Nat} {W : List Int} {T : List Ht}
set_option maxHeartbeats 400000 in
theorem SepC.mNew (H : SepC w0 w l) (hp t : Nat) : Calls Try.prog 16 #[.pointer (some ⟨hp, 0, none⟩), .pointer (some ⟨t, 0, none⟩)] w fun e w' => ∃ m, e = .returned (.pointer (some ⟨m, 0, none⟩)) ∧ SepC w0 w' (blkT m 85 (mmC t hp) :: l) := by
  have H1 := H.alloc #[.pointer (some ⟨t, 0, none⟩), .pointer (some ⟨hp, 0, none⟩)] 85
  go_enter Try.func16, Try.ntmps16
  go_wp2_with fail
  go_ret
  exact ⟨_, rfl, H1⟩
theorem SepC.mWalk (H : SepC w0 w (tlbT t most (T) :: hoT hp hb n W :: blkT m 85 (mmC t hp) :: l)) (hW : WdW W) (root page : Int) : Calls Try.prog 23 #[.pointer (some ⟨m, 0, none⟩), .int .i64 root, .int .i64 page] w fun e w' => e = .returned (.tuple #[.int .i64 (walkF n W root page), .agg (walkR n W root page).cs, .bool (walkH n W root page).isSome]) ∧ Chg [] w w' :=
  Walk_any root page w (H.pick 2 rfl).blk (H.pick 1 rfl).hmem hW
set_option maxRecDepth 100000 in
set_option maxHeartbeats 8000000 in
theorem SepC.mAcc (H : SepC w0 w (tlbT t most (T) :: hoT hp hb n W :: blkT m 85 (mmC t hp) :: l)) (hW : WdW W) (root asid page kind : Int) (user : Bool) :
    Calls Try.prog 21 #[.pointer (some ⟨m, 0, none⟩), .int .i64 root, .int .i64 asid, .int .i64 page, .int .i64 kind, .bool user] w fun e w' => e = .returned (.tuple #[.int .i64 (accV n W T root asid (page % 512) kind user), .bool (accB n W T root asid (page % 512) kind user)]) ∧ SepC w0 w' (tlbT t most (accH n W most T root asid (page % 512) kind user) :: hoT hp hb n W :: blkT m 85 (mmC t hp) :: l) := by
  have hMod := fun w' => Known_any page w'
  generalize page % 512 = pn at *
  have hG := fun {z : World} (H : SepC w0 z (tlbT t most (T) :: hoT hp hb n W :: blkT m 85 (mmC t hp) :: l)) => H.tGet asid pn
  have hD := fun {z : World} (H : SepC w0 z (tlbT t most (T) :: hoT hp hb n W :: blkT m 85 (mmC t hp) :: l)) => H.tDrop asid pn
  have hK := fun {z : World} (H : SepC w0 z (tlbT t most (dropT T asid pn) :: hoT hp hb n W :: blkT m 85 (mmC t hp) :: l)) => Told_any root asid pn z (H.pick 2 rfl).blk (H.pick 1 rfl).hmem hW
  have hP := fun {z : World} {l' : List Th} (x : Ht) (H : SepC w0 z (tlbT t most (dropT T asid pn) :: l')) => H.tPut x
  have hM1 := fun w' => May_any (getT T asid pn).rg kind user w'
  have hM2 := fun w' => May_any (walkR n W root pn) kind user w'
  have hkn := acc_known (n := n) (W := W) (T := T) (most := most) (root := root) (asid := asid) (page := pn) (kind := kind) (user := user)
  have hun := acc_unknown (T := T) (asid := asid) (page := pn) (kind := kind) (user := user)
  have hno := acc_none (n := n) (W := W) (T := T) (most := most) (root := root) (asid := asid) (page := pn) (kind := kind) (user := user)
  have hbd := fun f r => acc_bad (n := n) (W := W) (T := T) (most := most) (root := root) (asid := asid) (page := pn) (kind := kind) (user := user) (f := f) (r := r)
  have hgd := fun f r => acc_good (n := n) (W := W) (T := T) (most := most) (root := root) (asid := asid) (page := pn) (kind := kind) (user := user) (f := f) (r := r)
  generalize getT T asid pn = x at *
  obtain ⟨xa, xp, xf, xw, xu, xx, xd⟩ := x
  simp only [Ht.rg, Ht.v, Rg.cs] at hG hM1 hM2 hkn hun
  simp only [hitH, Ht.v] at hK
  have c0 := fun {z : World} {T : List Ht} (H : SepC w0 z (tlbT t most (T) :: hoT hp hb n W :: blkT m 85 (mmC t hp) :: l)) => (H.pick 2 rfl).blk.cell 0
  unfold mmC at c0
  simp only [List.getElem?_toArray, List.getElem?_cons_zero] at c0
  cases hht : hasT T asid pn
  · have hk := hun (.inl hht)
    rw [hht] at hG
    clear hkn hun hM1
    go_enter Try.func21, Try.ntmps21
    go_wp2_with fail
    refine (hMod _).mono ?_; rintro e w1 ⟨rfl, y1⟩
    clear hMod
    have H1 := H.new y1
    clear H y1
    have d1 := c0 H1
    go_wp2_with fail
    refine (hG H1).mono ?_; rintro e w2 ⟨rfl, y2⟩
    clear hG d1
    have H2 := (H1.new y2).alloc #[.int .i64 xa, .int .i64 xp, .int .i64 xf, .bool xw, .bool xu, .bool xx, .bool xd] 61
    clear H1 y2
    go_upto_region 3 with fail
    generalize w2.alloc (.cells #[.int .i64 xa, .int .i64 xp, .int .i64 xf, .bool xw, .bool xu, .bool xx, .bool xd] 61) = w3 at *
    generalize w2.heap.size = hx at *
    clear w2
    have bh := H2.blk
    have x2 := bh.cell 2; have x3 := bh.cell 3; have x4 := bh.cell 4; have x5 := bh.cell 5
    simp only [List.getElem?_toArray, List.getElem?_cons_zero, List.getElem?_cons_succ] at x2 x3 x4 x5
    replace H2 := H2.tail
    have d1 := c0 H2
    go_wp2_with fail
    refine (hD H2).mono ?_; rintro e w5 ⟨rfl, H3⟩
    clear hD H2 d1
    go_wp2_with fail
    refine (hK H3).mono ?_; rintro e w6 ⟨rfl, y6⟩
    clear hK
    replace H3 := H3.new y6
    clear y6
    cases hwk : walkH n W root pn with
    | none =>
      obtain ⟨q1, q2, q3⟩ := walk_not hwk
      obtain ⟨p1, p2, p3⟩ := hno hk hwk
      rw [q1, q2]
      simp only [Option.isSome_none]
      have H4 := H3.alloc #[.int .i64 asid, .int .i64 pn, .int .i64 0, .bool false, .bool false, .bool false, .bool false] 61
      go_wp2_with fail
      go_ret2
      exact ⟨by rw [p1, p2]; rfl, by rw [p3]; exact H4.tail⟩
    | some fr =>
      obtain ⟨f, ⟨rw_, ru, rx⟩⟩ := fr
      obtain ⟨q1, q2, q3⟩ := walk_is hwk
      rw [q1, q2]
      simp only [Option.isSome_some]
      rw [q2] at hM2
      have H4 := H3.alloc #[.int .i64 asid, .int .i64 pn, .int .i64 f, .bool rw_, .bool ru, .bool rx, .bool false] 61
      simp only at hM2
      go_upto_region 7 with fail
      generalize w6.alloc (.cells #[.int .i64 asid, .int .i64 pn, .int .i64 f, .bool rw_, .bool ru, .bool rx, .bool false] 61) = w7 at *
      generalize w6.heap.size = gr at *
      clear H3
      have br := H4.blk
      have r2 := br.cell 2; have r3 := br.cell 3; have r4 := br.cell 4; have r5 := br.cell 5
      simp only [List.getElem?_toArray, List.getElem?_cons_zero, List.getElem?_cons_succ] at r2 r3 r4 r5
      go_wp2_with fail
      refine (hM2 _).mono ?_; rintro e w8 ⟨rfl, y8⟩
      clear hM2 br r2 r3 r4 r5
      replace H4 := H4.new y8
      clear y8
      cases hmy : mayB ⟨rw_, ru, rx⟩ kind user
      · obtain ⟨p1, p2, p3⟩ := hbd f ⟨rw_, ru, rx⟩ hk hwk hmy
        go_wp2_with fail
        go_ret2
        exact ⟨by rw [p1, p2]; rfl, by rw [p3]; exact H4.tail⟩
      · obtain ⟨p1, p2, p3⟩ := hgd f ⟨rw_, ru, rx⟩ hk hwk hmy
        have br := H4.blk
        have r0 := br.cell 0; have r1 := br.cell 1; have r2 := br.cell 2; have r3 := br.cell 3; have r4 := br.cell 4; have r5 := br.cell 5; have r6 := br.cell 6
        simp only [List.getElem?_toArray, List.getElem?_cons_zero, List.getElem?_cons_succ] at r0 r1 r2 r3 r4 r5 r6
        have d1 := c0 H4.tail
        have hPu := hP (hitH asid pn f ⟨rw_, ru, rx⟩) ((H4.new (Chg.refl [] w8).drew).pick 1 rfl)
        simp only [hitH, Ht.v] at hPu
        simp only [hitH] at p3
        clear hP c0
        go_upto_region 9 with fail
        refine wp_region_still_tail 5 (by kernel_rfl) (by kernel_rfl) ?_
        simp only [List.take_succ_cons, List.take_zero, List.drop_succ_cons, List.drop_zero]
        change wpStill _ _ (World.drew _) _ _ _
        iterate 5 still_step
        refine wpStill_nil ?_
        change wpList _ _ _ _ _ (World.drew w8)
        go_wp2_with fail
        refine hPu.mono ?_; rintro e w9 ⟨rfl, H5⟩
        clear r0 r1 r2 r3 r4 r5 r6 d1 hPu
        have br := (H5.pick 1 rfl).blk
        have r2 := br.cell 2
        simp only [List.getElem?_toArray, List.getElem?_cons_zero, List.getElem?_cons_succ] at r2
        go_wp2_with fail
        go_ret2
        exact ⟨by rw [p1, p2]; rfl, by rw [p3]; exact (H5.pick 1 rfl).tail⟩
  · rw [hht] at hG
    cases hmm : mayB ⟨xw, xu, xx⟩ kind user
    · have hk := hun (.inr hmm)
      rw [hmm] at hM1
      clear hkn hun
      go_enter Try.func21, Try.ntmps21
      go_wp2_with fail
      refine (hMod _).mono ?_; rintro e w1 ⟨rfl, y1⟩
      clear hMod
      have H1 := H.new y1
      clear H y1
      have d1 := c0 H1
      go_wp2_with fail
      refine (hG H1).mono ?_; rintro e w2 ⟨rfl, y2⟩
      clear hG d1
      have H2 := (H1.new y2).alloc #[.int .i64 xa, .int .i64 xp, .int .i64 xf, .bool xw, .bool xu, .bool xx, .bool xd] 61
      clear H1 y2
      go_upto_region 3 with fail
      generalize w2.alloc (.cells #[.int .i64 xa, .int .i64 xp, .int .i64 xf, .bool xw, .bool xu, .bool xx, .bool xd] 61) = w3 at *
      generalize w2.heap.size = hx at *
      clear w2
      have bh := H2.blk
      have x2 := bh.cell 2; have x3 := bh.cell 3; have x4 := bh.cell 4; have x5 := bh.cell 5
      simp only [List.getElem?_toArray, List.getElem?_cons_zero, List.getElem?_cons_succ] at x2 x3 x4 x5
      replace H2 := H2.tail
      go_wp2_with fail
      refine (hM1 _).mono ?_; rintro e w4 ⟨rfl, y4⟩
      have bh4 := y4.blk bh (by simp)
      clear x2 x3 x4 x5
      have x2 := bh4.cell 2
      simp only [List.getElem?_toArray, List.getElem?_cons_zero, List.getElem?_cons_succ] at x2
      replace H2 := H2.new y4
      clear y4 hM1
      have d1 := c0 H2
      go_wp2_with fail
      refine (hD H2).mono ?_; rintro e w5 ⟨rfl, H3⟩
      clear hD H2 d1
      go_wp2_with fail
      refine (hK H3).mono ?_; rintro e w6 ⟨rfl, y6⟩
      clear hK
      replace H3 := H3.new y6
      clear y6
      cases hwk : walkH n W root pn with
      | none =>
        obtain ⟨q1, q2, q3⟩ := walk_not hwk
        obtain ⟨p1, p2, p3⟩ := hno hk hwk
        rw [q1, q2]
        simp only [Option.isSome_none]
        have H4 := H3.alloc #[.int .i64 asid, .int .i64 pn, .int .i64 0, .bool false, .bool false, .bool false, .bool false] 61
        go_wp2_with fail
        go_ret2
        exact ⟨by rw [p1, p2]; rfl, by rw [p3]; exact H4.tail⟩
      | some fr =>
        obtain ⟨f, ⟨rw_, ru, rx⟩⟩ := fr
        obtain ⟨q1, q2, q3⟩ := walk_is hwk
        rw [q1, q2]
        simp only [Option.isSome_some]
        rw [q2] at hM2
        have H4 := H3.alloc #[.int .i64 asid, .int .i64 pn, .int .i64 f, .bool rw_, .bool ru, .bool rx, .bool false] 61
        simp only at hM2
        go_upto_region 7 with fail
        generalize w6.alloc (.cells #[.int .i64 asid, .int .i64 pn, .int .i64 f, .bool rw_, .bool ru, .bool rx, .bool false] 61) = w7 at *
        generalize w6.heap.size = gr at *
        clear H3
        have br := H4.blk
        have r2 := br.cell 2; have r3 := br.cell 3; have r4 := br.cell 4; have r5 := br.cell 5
        simp only [List.getElem?_toArray, List.getElem?_cons_zero, List.getElem?_cons_succ] at r2 r3 r4 r5
        go_wp2_with fail
        refine (hM2 _).mono ?_; rintro e w8 ⟨rfl, y8⟩
        clear hM2 br r2 r3 r4 r5
        replace H4 := H4.new y8
        clear y8
        cases hmy : mayB ⟨rw_, ru, rx⟩ kind user
        · obtain ⟨p1, p2, p3⟩ := hbd f ⟨rw_, ru, rx⟩ hk hwk hmy
          go_wp2_with fail
          go_ret2
          exact ⟨by rw [p1, p2]; rfl, by rw [p3]; exact H4.tail⟩
        · obtain ⟨p1, p2, p3⟩ := hgd f ⟨rw_, ru, rx⟩ hk hwk hmy
          have br := H4.blk
          have r0 := br.cell 0; have r1 := br.cell 1; have r2 := br.cell 2; have r3 := br.cell 3; have r4 := br.cell 4; have r5 := br.cell 5; have r6 := br.cell 6
          simp only [List.getElem?_toArray, List.getElem?_cons_zero, List.getElem?_cons_succ] at r0 r1 r2 r3 r4 r5 r6
          have d1 := c0 H4.tail
          have hPu := hP (hitH asid pn f ⟨rw_, ru, rx⟩) ((H4.new (Chg.refl [] w8).drew).pick 1 rfl)
          simp only [hitH, Ht.v] at hPu
          simp only [hitH] at p3
          clear hP c0
          go_upto_region 9 with fail
          refine wp_region_still_tail 5 (by kernel_rfl) (by kernel_rfl) ?_
          simp only [List.take_succ_cons, List.take_zero, List.drop_succ_cons, List.drop_zero]
          change wpStill _ _ (World.drew _) _ _ _
          iterate 5 still_step
          refine wpStill_nil ?_
          change wpList _ _ _ _ _ (World.drew w8)
          go_wp2_with fail
          refine hPu.mono ?_; rintro e w9 ⟨rfl, H5⟩
          clear r0 r1 r2 r3 r4 r5 r6 d1 hPu
          have br := (H5.pick 1 rfl).blk
          have r2 := br.cell 2
          simp only [List.getElem?_toArray, List.getElem?_cons_zero, List.getElem?_cons_succ] at r2
          go_wp2_with fail
          go_ret2
          exact ⟨by rw [p1, p2]; rfl, by rw [p3]; exact (H5.pick 1 rfl).tail⟩
    · obtain ⟨p1, p2, p3⟩ := hkn hht hmm
      rw [hmm] at hM1
      go_enter Try.func21, Try.ntmps21
      go_wp2_with fail
      refine (hMod _).mono ?_; rintro e w1 ⟨rfl, y1⟩
      clear hMod
      have H1 := H.new y1
      clear H y1
      have d1 := c0 H1
      go_wp2_with fail
      refine (hG H1).mono ?_; rintro e w2 ⟨rfl, y2⟩
      clear hG d1
      have H2 := (H1.new y2).alloc #[.int .i64 xa, .int .i64 xp, .int .i64 xf, .bool xw, .bool xu, .bool xx, .bool xd] 61
      clear H1 y2
      go_upto_region 3 with fail
      generalize w2.alloc (.cells #[.int .i64 xa, .int .i64 xp, .int .i64 xf, .bool xw, .bool xu, .bool xx, .bool xd] 61) = w3 at *
      generalize w2.heap.size = hx at *
      clear w2
      have bh := H2.blk
      have x2 := bh.cell 2; have x3 := bh.cell 3; have x4 := bh.cell 4; have x5 := bh.cell 5
      simp only [List.getElem?_toArray, List.getElem?_cons_zero, List.getElem?_cons_succ] at x2 x3 x4 x5
      replace H2 := H2.tail
      go_wp2_with fail
      refine (hM1 _).mono ?_; rintro e w4 ⟨rfl, y4⟩
      have bh4 := y4.blk bh (by simp)
      clear x2 x3 x4 x5
      have x2 := bh4.cell 2
      simp only [List.getElem?_toArray, List.getElem?_cons_zero, List.getElem?_cons_succ] at x2
      replace H2 := H2.new y4
      clear y4 hM1
      go_wp2_with fail
      go_ret2
      exact ⟨by rw [p1, p2]; rfl, by rw [p3]; exact H2⟩
set_option maxRecDepth 100000 in
set_option maxHeartbeats 8000000 in
theorem SepC.mFind (H : SepC w0 w (tlbT t most (T) :: hoT hp hb n W :: blkT m 85 (mmC t hp) :: l)) (hW : WdW W) (root asid page : Int) :
    Calls Try.prog 18 #[.pointer (some ⟨m, 0, none⟩), .int .i64 root, .int .i64 asid, .int .i64 page] w fun e w' => e = .returned (.bool (findHB n W T root asid (page % 512))) ∧ SepC w0 w' (tlbT t most (findH n W most T root asid (page % 512)) :: hoT hp hb n W :: blkT m 85 (mmC t hp) :: l) := by
  have hMod := fun w' => Known_any page w'
  generalize page % 512 = pn at *
  have hG := fun {z : World} (H : SepC w0 z (tlbT t most (T) :: hoT hp hb n W :: blkT m 85 (mmC t hp) :: l)) => H.tGet asid pn
  have hK := fun {z : World} (H : SepC w0 z (tlbT t most (T) :: hoT hp hb n W :: blkT m 85 (mmC t hp) :: l)) => Told_any root asid pn z (H.pick 2 rfl).blk (H.pick 1 rfl).hmem hW
  have hP := fun {z : World} {l' : List Th} (x : Ht) (H : SepC w0 z (tlbT t most T :: l')) => H.tPut x
  have hfi := find_is (n := n) (W := W) (T := T) (most := most) (root := root) (asid := asid) (page := pn)
  have hfn := find_none (n := n) (W := W) (T := T) (most := most) (root := root) (asid := asid) (page := pn)
  have hfy := fun f r => find_yes (n := n) (W := W) (T := T) (most := most) (root := root) (asid := asid) (page := pn) (f := f) (r := r)
  generalize getT T asid pn = x at *
  obtain ⟨xa, xp, xf, xw, xu, xx, xd⟩ := x
  simp only [Ht.v] at hG
  simp only [hitH, Ht.v] at hK
  have c0 := fun {z : World} {T : List Ht} (H : SepC w0 z (tlbT t most (T) :: hoT hp hb n W :: blkT m 85 (mmC t hp) :: l)) => (H.pick 2 rfl).blk.cell 0
  unfold mmC at c0
  simp only [List.getElem?_toArray, List.getElem?_cons_zero] at c0
  cases hht : hasT T asid pn
  · rw [hht] at hG
    go_enter Try.func18, Try.ntmps18
    go_wp2_with fail
    refine (hMod _).mono ?_; rintro e w1 ⟨rfl, y1⟩
    clear hMod
    have H1 := H.new y1
    clear H y1
    have d1 := c0 H1
    go_wp2_with fail
    refine (hG H1).mono ?_; rintro e w2 ⟨rfl, y2⟩
    clear hG d1
    have H2 := ((H1.new y2).alloc #[.int .i64 xa, .int .i64 xp, .int .i64 xf, .bool xw, .bool xu, .bool xx, .bool xd] 61).tail
    clear H1 y2
    go_wp2_with fail
    refine (hK H2).mono ?_; rintro e w6 ⟨rfl, y6⟩
    clear hK
    have H3 := H2.new y6
    clear y6 H2
    cases hwk : walkH n W root pn with
    | none =>
      obtain ⟨q1, q2, q3⟩ := walk_not hwk
      rw [q1, q2]
      simp only [Option.isSome_none]
      have H4 := H3.alloc #[.int .i64 asid, .int .i64 pn, .int .i64 0, .bool false, .bool false, .bool false, .bool false] 61
      go_wp2_with fail
      go_ret
      obtain ⟨p1, p2⟩ := hfn hht hwk
      exact ⟨by rw [p1]; rfl, by rw [p2]; exact H4.tail⟩
    | some fr =>
      obtain ⟨f, ⟨rw_, ru, rx⟩⟩ := fr
      obtain ⟨p1, p2⟩ := hfy f ⟨rw_, ru, rx⟩ hht hwk
      obtain ⟨q1, q2, q3⟩ := walk_is hwk
      rw [q1, q2]
      simp only [Option.isSome_some]
      have H4 := H3.alloc #[.int .i64 asid, .int .i64 pn, .int .i64 f, .bool rw_, .bool ru, .bool rx, .bool false] 61
      go_upto_region 7 with fail
      generalize w6.alloc (.cells #[.int .i64 asid, .int .i64 pn, .int .i64 f, .bool rw_, .bool ru, .bool rx, .bool false] 61) = w7 at *
      generalize w6.heap.size = gr at *
      clear H3
      have br := H4.blk
      have r0 := br.cell 0; have r1 := br.cell 1; have r2 := br.cell 2; have r3 := br.cell 3; have r4 := br.cell 4; have r5 := br.cell 5; have r6 := br.cell 6
      simp only [List.getElem?_toArray, List.getElem?_cons_zero, List.getElem?_cons_succ] at r0 r1 r2 r3 r4 r5 r6
      have d1 := c0 H4.tail
      have hPu := hP (hitH asid pn f ⟨rw_, ru, rx⟩) ((H4.new (Chg.refl [] w7).drew).pick 1 rfl)
      simp only [hitH, Ht.v] at hPu
      simp only [hitH] at p2
      clear hP c0
      refine wp_region_still_tail 5 (by kernel_rfl) (by kernel_rfl) ?_
      simp only [List.take_succ_cons, List.take_zero, List.drop_succ_cons, List.drop_zero]
      change wpStill _ _ (World.drew _) _ _ _
      iterate 5 still_step
      refine wpStill_nil ?_
      change wpList _ _ _ _ _ (World.drew w7)
      go_wp2_with fail
      refine hPu.mono ?_; rintro e w9 ⟨rfl, H5⟩
      go_wp2_with fail
      go_ret
      exact ⟨by rw [p1]; rfl, by rw [p2]; exact (H5.pick 1 rfl).tail⟩
  · rw [hht] at hG
    obtain ⟨p1, p2⟩ := hfi hht
    go_enter Try.func18, Try.ntmps18
    go_wp2_with fail
    refine (hMod _).mono ?_; rintro e w1 ⟨rfl, y1⟩
    clear hMod
    have H1 := H.new y1
    clear H y1
    have d1 := c0 H1
    go_wp2_with fail
    refine (hG H1).mono ?_; rintro e w2 ⟨rfl, y2⟩
    clear hG d1
    have H2 := ((H1.new y2).alloc #[.int .i64 xa, .int .i64 xp, .int .i64 xf, .bool xw, .bool xu, .bool xx, .bool xd] 61).tail
    clear H1 y2
    go_wp2_with fail
    go_ret
    exact ⟨by rw [p1]; rfl, by rw [p2]; exact H2⟩
end

end Go.Proofs.Ytfckedecpflldaa
