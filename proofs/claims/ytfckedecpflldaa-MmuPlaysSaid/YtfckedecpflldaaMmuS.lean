/-
  The document's host's machine, beside others: New, Walk, Access, Find.
-/
import Derived.Test.YtfckedecpflldaaMmuR
import Derived.Test.YtfckedecpflldaaHost
namespace Go.Proofs.Ytfckedecpflldaa
open Go.RowKit

def accV (n : Nat) (W : List Int) (T : List Ht) (root asid page kind : Int) (user : Bool) : Int := (accF n W T root asid page kind user).getD 0
def accB (n : Nat) (W : List Int) (T : List Ht) (root asid page kind : Int) (user : Bool) : Bool := (accF n W T root asid page kind user).isSome
section
variable {n most : Nat} {W : List Int} {T : List Ht} {root asid page kind f : Int} {user : Bool} {r : Rg}
theorem acc_known (h1 : hasT T asid page = true) (h2 : mayB (getT T asid page).rg kind user = true) : accV n W T root asid page kind user = (getT T asid page).f ∧ accB n W T root asid page kind user = true ∧ accH n W most T root asid page kind user = T := by
  have hk : knowB T asid page kind user = true := by unfold knowB; rw [h1, h2]; rfl
  unfold accV accB accF accH; rw [if_pos hk, if_pos hk]; exact ⟨rfl, rfl, rfl⟩
theorem acc_unknown (h : hasT T asid page = false ∨ mayB (getT T asid page).rg kind user = false) : knowB T asid page kind user = false := by
  unfold knowB; rcases h with h | h <;> rw [h] <;> simp
theorem acc_none (hk : knowB T asid page kind user = false) (hw : walkH n W root page = none) : accV n W T root asid page kind user = 0 ∧ accB n W T root asid page kind user = false ∧ accH n W most T root asid page kind user = dropT T asid page := by
  unfold accV accB accF accH; rw [hk, hw]; exact ⟨rfl, rfl, rfl⟩
theorem acc_bad (hk : knowB T asid page kind user = false) (hw : walkH n W root page = some (f, r)) (hm : mayB r kind user = false) : accV n W T root asid page kind user = 0 ∧ accB n W T root asid page kind user = false ∧ accH n W most T root asid page kind user = dropT T asid page := by
  unfold accV accB accF accH; rw [hk, hw]; simp [hm]
theorem acc_good (hk : knowB T asid page kind user = false) (hw : walkH n W root page = some (f, r)) (hm : mayB r kind user = true) : accV n W T root asid page kind user = f ∧ accB n W T root asid page kind user = true ∧ accH n W most T root asid page kind user = putT most (dropT T asid page) (hitH asid page f r) := by
  unfold accV accB accF accH; rw [hk, hw]; simp [hm]
theorem find_is (h1 : hasT T asid page = true) : findHB n W T root asid page = false ∧ findH n W most T root asid page = T := by
  unfold findHB findH; rw [h1]; exact ⟨rfl, by rw [if_pos rfl]⟩
theorem find_none (h1 : hasT T asid page = false) (hw : walkH n W root page = none) : findHB n W T root asid page = false ∧ findH n W most T root asid page = T := by
  unfold findHB findH; rw [h1, hw]; exact ⟨rfl, rfl⟩
theorem find_yes (h1 : hasT T asid page = false) (hw : walkH n W root page = some (f, r)) : findHB n W T root asid page = true ∧ findH n W most T root asid page = putT most T (hitH asid page f r) := by
  unfold findHB findH; rw [h1, hw]; exact ⟨rfl, rfl⟩
end
section
variable {w0 w : World} {l : List Th} {m rp rb t n most : Nat} {W : List Int} {T : List Ht}
set_option maxHeartbeats 400000 in
theorem SepC.rmNew (H : SepC w0 w l) (rp t : Nat) : Calls Try.prog 17 #[.pointer (some ⟨rp, 0, none⟩), .pointer (some ⟨t, 0, none⟩)] w fun e w' => ∃ m, e = .returned (.pointer (some ⟨m, 0, none⟩)) ∧ SepC w0 w' (blkT m 87 #[.pointer (some ⟨rp, 0, none⟩), .pointer (some ⟨t, 0, none⟩)] :: l) := by
  have H1 := H.alloc #[.pointer (some ⟨rp, 0, none⟩), .pointer (some ⟨t, 0, none⟩)] 87
  go_enter Try.func17, Try.ntmps17
  go_wp2_with fail
  go_ret
  exact ⟨_, rfl, H1⟩
theorem SepC.rmWalk (H : SepC w0 w (rtlbT t most (T) :: rhoT rp rb n W :: blkT m 87 #[.pointer (some ⟨rp, 0, none⟩), .pointer (some ⟨t, 0, none⟩)] :: l)) (hW : WdW W) (root page : Int) : Calls Try.prog 24 #[.pointer (some ⟨m, 0, none⟩), .int .i64 root, .int .i64 page] w fun e w' => e = .returned (.tuple #[.int .i64 (walkF n W root page), .agg (walkR n W root page).cs, .bool (walkH n W root page).isSome]) ∧ Chg [] w w' :=
  RWalkH_any root page w (H.pick 2 rfl).blk (H.pick 1 rfl).rhmem hW
set_option maxRecDepth 100000 in
set_option maxHeartbeats 8000000 in
theorem SepC.rmAcc (H : SepC w0 w (rtlbT t most (T) :: rhoT rp rb n W :: blkT m 87 #[.pointer (some ⟨rp, 0, none⟩), .pointer (some ⟨t, 0, none⟩)] :: l)) (hW : WdW W) (root asid page kind : Int) (user : Bool) :
    Calls Try.prog 22 #[.pointer (some ⟨m, 0, none⟩), .int .i64 root, .int .i64 asid, .int .i64 page, .int .i64 kind, .bool user] w fun e w' => e = .returned (.tuple #[.int .i64 (accV n W T root asid (page % 512) kind user), .bool (accB n W T root asid (page % 512) kind user)]) ∧ SepC w0 w' (rtlbT t most (accH n W most T root asid (page % 512) kind user) :: rhoT rp rb n W :: blkT m 87 #[.pointer (some ⟨rp, 0, none⟩), .pointer (some ⟨t, 0, none⟩)] :: l) := by
  have hMod := fun w' => RMod_any page w'
  generalize page % 512 = pn at *
  have hG := fun {z : World} (H : SepC w0 z (rtlbT t most (T) :: rhoT rp rb n W :: blkT m 87 #[.pointer (some ⟨rp, 0, none⟩), .pointer (some ⟨t, 0, none⟩)] :: l)) => H.rtGet asid pn
  have hD := fun {z : World} (H : SepC w0 z (rtlbT t most (T) :: rhoT rp rb n W :: blkT m 87 #[.pointer (some ⟨rp, 0, none⟩), .pointer (some ⟨t, 0, none⟩)] :: l)) => H.rtDrop asid pn
  have hK := fun {z : World} (H : SepC w0 z (rtlbT t most (dropT T asid pn) :: rhoT rp rb n W :: blkT m 87 #[.pointer (some ⟨rp, 0, none⟩), .pointer (some ⟨t, 0, none⟩)] :: l)) => H.rmWalk hW root pn
  have hP := fun {z : World} (x : Ht) (H : SepC w0 z (rtlbT t most (dropT T asid pn) :: rhoT rp rb n W :: blkT m 87 #[.pointer (some ⟨rp, 0, none⟩), .pointer (some ⟨t, 0, none⟩)] :: l)) => H.rtPut x
  have hM1 := fun w' => RMay_any (getT T asid pn).rg kind user w'
  have hM2 := fun w' => RMay_any (walkR n W root pn) kind user w'
  have hkn := acc_known (n := n) (W := W) (T := T) (most := most) (root := root) (asid := asid) (page := pn) (kind := kind) (user := user)
  have hun := acc_unknown (T := T) (asid := asid) (page := pn) (kind := kind) (user := user)
  have hno := acc_none (n := n) (W := W) (T := T) (most := most) (root := root) (asid := asid) (page := pn) (kind := kind) (user := user)
  have hbd := fun f r => acc_bad (n := n) (W := W) (T := T) (most := most) (root := root) (asid := asid) (page := pn) (kind := kind) (user := user) (f := f) (r := r)
  have hgd := fun f r => acc_good (n := n) (W := W) (T := T) (most := most) (root := root) (asid := asid) (page := pn) (kind := kind) (user := user) (f := f) (r := r)
  generalize getT T asid pn = x at *
  obtain ⟨xa, xp, xf, xw, xu, xx, xd⟩ := x
  simp only [Ht.rg, Ht.v, Rg.cs] at hG hM1 hM2 hK hkn hun
  have c0 := fun {z : World} (H : SepC w0 z (rtlbT t most (T) :: rhoT rp rb n W :: blkT m 87 #[.pointer (some ⟨rp, 0, none⟩), .pointer (some ⟨t, 0, none⟩)] :: l)) => (H.pick 2 rfl).blk.cell 0
  have c1 := fun {z : World} {T : List Ht} (H : SepC w0 z (rtlbT t most (T) :: rhoT rp rb n W :: blkT m 87 #[.pointer (some ⟨rp, 0, none⟩), .pointer (some ⟨t, 0, none⟩)] :: l)) => (H.pick 2 rfl).blk.cell 1
  simp only [List.getElem?_toArray, List.getElem?_cons_zero, List.getElem?_cons_succ] at c1
  clear c0
  cases hht : hasT T asid pn
  · have hk := hun (.inl hht)
    rw [hht] at hG
    clear hkn hun hM1
    go_enter Try.func22, Try.ntmps22
    go_wp2_with fail
    refine (hMod _).mono ?_; rintro e w1 ⟨rfl, y1⟩
    clear hMod
    have H1 := H.new y1
    clear H y1
    have d1 := c1 H1
    go_wp2_with fail
    refine (hG H1).mono ?_; rintro e w2 ⟨rfl, y2⟩
    clear hG d1
    have H2 := (H1.new y2).alloc #[.int .i64 xa, .int .i64 xp, .int .i64 xf, .bool xw, .bool xu, .bool xx, .bool xd] 61
    clear H1 y2
    go_upto_region 3 with fail
    generalize w2.alloc (.cells #[.int .i64 xa, .int .i64 xp, .int .i64 xf, .bool xw, .bool xu, .bool xx, .bool xd] 61) = w3 at *
    generalize w2.heap.size = hx at *
    clear w2
    have bh := H2.blk
    have x2 := bh.cell 2; have x3 := bh.cell 3; have x4 := bh.cell 4; have x5 := bh.cell 5
    simp only [List.getElem?_toArray, List.getElem?_cons_zero, List.getElem?_cons_succ] at x2 x3 x4 x5
    replace H2 := H2.tail
    have d1 := c1 H2
    go_wp2_with fail
    refine (hD H2).mono ?_; rintro e w5 ⟨rfl, H3⟩
    clear hD H2 d1
    go_wp2_with fail
    refine (hK H3).mono ?_; rintro e w6 ⟨rfl, y6⟩
    clear hK
    replace H3 := H3.new y6
    clear y6
    cases hwk : walkH n W root pn with
    | none =>
      obtain ⟨q1, q2, q3⟩ := walk_not hwk
      obtain ⟨p1, p2, p3⟩ := hno hk hwk
      rw [q1, q2]
      simp only [Option.isSome_none]
      have H4 := H3.alloc #[.bool false, .bool false, .bool false] 47
      go_wp2_with fail
      go_ret2
      exact ⟨by rw [p1, p2]; rfl, by rw [p3]; exact H4.tail⟩
    | some fr =>
      obtain ⟨f, ⟨rw_, ru, rx⟩⟩ := fr
      obtain ⟨q1, q2, q3⟩ := walk_is hwk
      rw [q1, q2]
      simp only [Option.isSome_some]
      rw [q2] at hM2
      have H4 := H3.alloc #[.bool rw_, .bool ru, .bool rx] 47
      simp only at hM2
      go_upto_region 7 with fail
      generalize w6.alloc (.cells #[.bool rw_, .bool ru, .bool rx] 47) = w7 at *
      generalize w6.heap.size = gr at *
      clear H3
      have br := H4.blk
      have r0 := br.cell 0; have r1 := br.cell 1; have r2 := br.cell 2
      simp only [List.getElem?_toArray, List.getElem?_cons_zero, List.getElem?_cons_succ] at r0 r1 r2
      go_wp2_with fail
      refine (hM2 _).mono ?_; rintro e w8 ⟨rfl, y8⟩
      clear hM2 br r0 r1 r2
      replace H4 := H4.new y8
      clear y8
      cases hmy : mayB ⟨rw_, ru, rx⟩ kind user
      · obtain ⟨p1, p2, p3⟩ := hbd f ⟨rw_, ru, rx⟩ hk hwk hmy
        go_wp2_with fail
        go_ret2
        exact ⟨by rw [p1, p2]; rfl, by rw [p3]; exact H4.tail⟩
      · obtain ⟨p1, p2, p3⟩ := hgd f ⟨rw_, ru, rx⟩ hk hwk hmy
        have br := H4.blk
        have r0 := br.cell 0; have r1 := br.cell 1; have r2 := br.cell 2
        simp only [List.getElem?_toArray, List.getElem?_cons_zero, List.getElem?_cons_succ] at r0 r1 r2
        have d1 := c1 H4.tail
        have hPu := hP (hitH asid pn f ⟨rw_, ru, rx⟩) (H4.tail.new (Chg.refl [] w8).drew)
        simp only [hitH, Ht.v] at hPu
        simp only [hitH] at p3
        clear hP c1
        go_upto_region 9 with fail
        refine wp_region_still_tail 9 (by kernel_rfl) (by kernel_rfl) ?_
        simp only [List.take_succ_cons, List.take_zero, List.drop_succ_cons, List.drop_zero]
        change wpStill _ _ (World.drew _) _ _ _
        iterate 9 still_step
        refine wpStill_nil ?_
        change wpList _ _ _ _ _ (World.drew w8)
        go_wp2_with fail
        refine hPu.mono ?_; rintro e w9 ⟨rfl, H5⟩
        go_wp2_with fail
        go_ret2
        exact ⟨by rw [p1, p2]; rfl, by rw [p3]; exact H5⟩
  · rw [hht] at hG
    cases hmm : mayB ⟨xw, xu, xx⟩ kind user
    · have hk := hun (.inr hmm)
      rw [hmm] at hM1
      clear hkn hun
      go_enter Try.func22, Try.ntmps22
      go_wp2_with fail
      refine (hMod _).mono ?_; rintro e w1 ⟨rfl, y1⟩
      clear hMod
      have H1 := H.new y1
      clear H y1
      have d1 := c1 H1
      go_wp2_with fail
      refine (hG H1).mono ?_; rintro e w2 ⟨rfl, y2⟩
      clear hG d1
      have H2 := (H1.new y2).alloc #[.int .i64 xa, .int .i64 xp, .int .i64 xf, .bool xw, .bool xu, .bool xx, .bool xd] 61
      clear H1 y2
      go_upto_region 3 with fail
      generalize w2.alloc (.cells #[.int .i64 xa, .int .i64 xp, .int .i64 xf, .bool xw, .bool xu, .bool xx, .bool xd] 61) = w3 at *
      generalize w2.heap.size = hx at *
      clear w2
      have bh := H2.blk
      have x2 := bh.cell 2; have x3 := bh.cell 3; have x4 := bh.cell 4; have x5 := bh.cell 5
      simp only [List.getElem?_toArray, List.getElem?_cons_zero, List.getElem?_cons_succ] at x2 x3 x4 x5
      replace H2 := H2.tail
      go_wp2_with fail
      refine (hM1 _).mono ?_; rintro e w4 ⟨rfl, y4⟩
      have bh4 := y4.blk bh (by simp)
      have x2 := bh4.cell 2
      simp only [List.getElem?_toArray, List.getElem?_cons_zero, List.getElem?_cons_succ] at x2
      replace H2 := H2.new y4
      clear y4 hM1
      have d1 := c1 H2
      go_wp2_with fail
      refine (hD H2).mono ?_; rintro e w5 ⟨rfl, H3⟩
      clear hD H2 d1
      go_wp2_with fail
      refine (hK H3).mono ?_; rintro e w6 ⟨rfl, y6⟩
      clear hK
      replace H3 := H3.new y6
      clear y6
      cases hwk : walkH n W root pn with
      | none =>
        obtain ⟨q1, q2, q3⟩ := walk_not hwk
        obtain ⟨p1, p2, p3⟩ := hno hk hwk
        rw [q1, q2]
        simp only [Option.isSome_none]
        have H4 := H3.alloc #[.bool false, .bool false, .bool false] 47
        go_wp2_with fail
        go_ret2
        exact ⟨by rw [p1, p2]; rfl, by rw [p3]; exact H4.tail⟩
      | some fr =>
        obtain ⟨f, ⟨rw_, ru, rx⟩⟩ := fr
        obtain ⟨q1, q2, q3⟩ := walk_is hwk
        rw [q1, q2]
        simp only [Option.isSome_some]
        rw [q2] at hM2
        have H4 := H3.alloc #[.bool rw_, .bool ru, .bool rx] 47
        simp only at hM2
        go_upto_region 7 with fail
        generalize w6.alloc (.cells #[.bool rw_, .bool ru, .bool rx] 47) = w7 at *
        generalize w6.heap.size = gr at *
        clear H3
        have br := H4.blk
        have r0 := br.cell 0; have r1 := br.cell 1; have r2 := br.cell 2
        simp only [List.getElem?_toArray, List.getElem?_cons_zero, List.getElem?_cons_succ] at r0 r1 r2
        go_wp2_with fail
        refine (hM2 _).mono ?_; rintro e w8 ⟨rfl, y8⟩
        clear hM2 br r0 r1 r2
        replace H4 := H4.new y8
        clear y8
        cases hmy : mayB ⟨rw_, ru, rx⟩ kind user
        · obtain ⟨p1, p2, p3⟩ := hbd f ⟨rw_, ru, rx⟩ hk hwk hmy
          go_wp2_with fail
          go_ret2
          exact ⟨by rw [p1, p2]; rfl, by rw [p3]; exact H4.tail⟩
        · obtain ⟨p1, p2, p3⟩ := hgd f ⟨rw_, ru, rx⟩ hk hwk hmy
          have br := H4.blk
          have r0 := br.cell 0; have r1 := br.cell 1; have r2 := br.cell 2
          simp only [List.getElem?_toArray, List.getElem?_cons_zero, List.getElem?_cons_succ] at r0 r1 r2
          have d1 := c1 H4.tail
          have hPu := hP (hitH asid pn f ⟨rw_, ru, rx⟩) (H4.tail.new (Chg.refl [] w8).drew)
          simp only [hitH, Ht.v] at hPu
          simp only [hitH] at p3
          clear hP c1
          go_upto_region 9 with fail
          refine wp_region_still_tail 9 (by kernel_rfl) (by kernel_rfl) ?_
          simp only [List.take_succ_cons, List.take_zero, List.drop_succ_cons, List.drop_zero]
          change wpStill _ _ (World.drew _) _ _ _
          iterate 9 still_step
          refine wpStill_nil ?_
          change wpList _ _ _ _ _ (World.drew w8)
          go_wp2_with fail
          refine hPu.mono ?_; rintro e w9 ⟨rfl, H5⟩
          go_wp2_with fail
          go_ret2
          exact ⟨by rw [p1, p2]; rfl, by rw [p3]; exact H5⟩
    · obtain ⟨p1, p2, p3⟩ := hkn hht hmm
      rw [hmm] at hM1
      skip
      go_enter Try.func22, Try.ntmps22
      go_wp2_with fail
      refine (hMod _).mono ?_; rintro e w1 ⟨rfl, y1⟩
      clear hMod
      have H1 := H.new y1
      clear H y1
      have d1 := c1 H1
      go_wp2_with fail
      refine (hG H1).mono ?_; rintro e w2 ⟨rfl, y2⟩
      clear hG d1
      have H2 := (H1.new y2).alloc #[.int .i64 xa, .int .i64 xp, .int .i64 xf, .bool xw, .bool xu, .bool xx, .bool xd] 61
      clear H1 y2
      go_upto_region 3 with fail
      generalize w2.alloc (.cells #[.int .i64 xa, .int .i64 xp, .int .i64 xf, .bool xw, .bool xu, .bool xx, .bool xd] 61) = w3 at *
      generalize w2.heap.size = hx at *
      clear w2
      have bh := H2.blk
      have x2 := bh.cell 2; have x3 := bh.cell 3; have x4 := bh.cell 4; have x5 := bh.cell 5
      simp only [List.getElem?_toArray, List.getElem?_cons_zero, List.getElem?_cons_succ] at x2 x3 x4 x5
      replace H2 := H2.tail
      go_wp2_with fail
      refine (hM1 _).mono ?_; rintro e w4 ⟨rfl, y4⟩
      have bh4 := y4.blk bh (by simp)
      have x2 := bh4.cell 2
      simp only [List.getElem?_toArray, List.getElem?_cons_zero, List.getElem?_cons_succ] at x2
      replace H2 := H2.new y4
      clear y4 hM1
      go_wp2_with fail
      go_ret2
      exact ⟨by rw [p1, p2]; rfl, by rw [p3]; exact H2⟩
set_option maxRecDepth 100000 in
set_option maxHeartbeats 8000000 in
theorem SepC.rmFind (H : SepC w0 w (rtlbT t most (T) :: rhoT rp rb n W :: blkT m 87 #[.pointer (some ⟨rp, 0, none⟩), .pointer (some ⟨t, 0, none⟩)] :: l)) (hW : WdW W) (root asid page : Int) :
    Calls Try.prog 19 #[.pointer (some ⟨m, 0, none⟩), .int .i64 root, .int .i64 asid, .int .i64 page] w fun e w' => e = .returned (.bool (findHB n W T root asid (page % 512))) ∧ SepC w0 w' (rtlbT t most (findH n W most T root asid (page % 512)) :: rhoT rp rb n W :: blkT m 87 #[.pointer (some ⟨rp, 0, none⟩), .pointer (some ⟨t, 0, none⟩)] :: l) := by
  have hMod := fun w' => RMod_any page w'
  generalize page % 512 = pn at *
  have hG := fun {z : World} (H : SepC w0 z (rtlbT t most (T) :: rhoT rp rb n W :: blkT m 87 #[.pointer (some ⟨rp, 0, none⟩), .pointer (some ⟨t, 0, none⟩)] :: l)) => H.rtGet asid pn
  have hK := fun {z : World} (H : SepC w0 z (rtlbT t most (T) :: rhoT rp rb n W :: blkT m 87 #[.pointer (some ⟨rp, 0, none⟩), .pointer (some ⟨t, 0, none⟩)] :: l)) => H.rmWalk hW root pn
  have hP := fun {z : World} (x : Ht) (H : SepC w0 z (rtlbT t most (T) :: rhoT rp rb n W :: blkT m 87 #[.pointer (some ⟨rp, 0, none⟩), .pointer (some ⟨t, 0, none⟩)] :: l)) => H.rtPut x
  have hfi := find_is (n := n) (W := W) (T := T) (most := most) (root := root) (asid := asid) (page := pn)
  have hfn := find_none (n := n) (W := W) (T := T) (most := most) (root := root) (asid := asid) (page := pn)
  have hfy := fun f r => find_yes (n := n) (W := W) (T := T) (most := most) (root := root) (asid := asid) (page := pn) (f := f) (r := r)
  generalize getT T asid pn = x at *
  obtain ⟨xa, xp, xf, xw, xu, xx, xd⟩ := x
  simp only [Ht.v, Rg.cs] at hG hK
  have c1 := fun {z : World} {T : List Ht} (H : SepC w0 z (rtlbT t most (T) :: rhoT rp rb n W :: blkT m 87 #[.pointer (some ⟨rp, 0, none⟩), .pointer (some ⟨t, 0, none⟩)] :: l)) => (H.pick 2 rfl).blk.cell 1
  simp only [List.getElem?_toArray, List.getElem?_cons_zero, List.getElem?_cons_succ] at c1
  cases hht : hasT T asid pn
  · rw [hht] at hG
    go_enter Try.func19, Try.ntmps19
    go_wp2_with fail
    refine (hMod _).mono ?_; rintro e w1 ⟨rfl, y1⟩
    clear hMod
    have H1 := H.new y1
    clear H y1
    have d1 := c1 H1
    go_wp2_with fail
    refine (hG H1).mono ?_; rintro e w2 ⟨rfl, y2⟩
    clear hG d1
    have H2 := (H1.new y2).alloc #[.int .i64 xa, .int .i64 xp, .int .i64 xf, .bool xw, .bool xu, .bool xx, .bool xd] 61
    clear H1 y2
    go_upto_region 3 with fail
    generalize w2.alloc (.cells #[.int .i64 xa, .int .i64 xp, .int .i64 xf, .bool xw, .bool xu, .bool xx, .bool xd] 61) = w3 at *
    skip
    replace H2 := H2.tail
    go_wp2_with fail
    refine (hK H2).mono ?_; rintro e w6 ⟨rfl, y6⟩
    clear hK
    have H3 := H2.new y6
    clear y6 H2
    cases hwk : walkH n W root pn with
    | none =>
      obtain ⟨q1, q2, q3⟩ := walk_not hwk
      rw [q1, q2]
      simp only [Option.isSome_none]
      have H4 := H3.alloc #[.bool false, .bool false, .bool false] 47
      go_wp2_with fail
      go_ret
      obtain ⟨p1, p2⟩ := hfn hht hwk
      exact ⟨by rw [p1]; rfl, by rw [p2]; exact H4.tail⟩
    | some fr =>
      obtain ⟨f, ⟨rw_, ru, rx⟩⟩ := fr
      obtain ⟨p1, p2⟩ := hfy f ⟨rw_, ru, rx⟩ hht hwk
      obtain ⟨q1, q2, q3⟩ := walk_is hwk
      rw [q1, q2]
      simp only [Option.isSome_some]
      have H4 := H3.alloc #[.bool rw_, .bool ru, .bool rx] 47
      go_upto_region 6 with fail
      generalize w6.alloc (.cells #[.bool rw_, .bool ru, .bool rx] 47) = w7 at *
      generalize w6.heap.size = gr at *
      clear H3
      have br := H4.blk
      have r0 := br.cell 0; have r1 := br.cell 1; have r2 := br.cell 2
      simp only [List.getElem?_toArray, List.getElem?_cons_zero, List.getElem?_cons_succ] at r0 r1 r2
      have d1 := c1 H4.tail
      have hPu := hP (hitH asid pn f ⟨rw_, ru, rx⟩) (H4.tail.new (Chg.refl [] w7).drew)
      simp only [hitH, Ht.v] at hPu
      simp only [hitH] at p2
      clear hP c1
      refine wp_region_still_tail 9 (by kernel_rfl) (by kernel_rfl) ?_
      simp only [List.take_succ_cons, List.take_zero, List.drop_succ_cons, List.drop_zero]
      change wpStill _ _ (World.drew _) _ _ _
      iterate 9 still_step
      refine wpStill_nil ?_
      change wpList _ _ _ _ _ (World.drew w7)
      go_wp2_with fail
      refine hPu.mono ?_; rintro e w9 ⟨rfl, H5⟩
      go_wp2_with fail
      go_ret
      exact ⟨by rw [p1]; rfl, by rw [p2]; exact H5⟩
  · rw [hht] at hG
    obtain ⟨p1, p2⟩ := hfi hht
    go_enter Try.func19, Try.ntmps19
    go_wp2_with fail
    refine (hMod _).mono ?_; rintro e w1 ⟨rfl, y1⟩
    clear hMod
    have H1 := H.new y1
    clear H y1
    have d1 := c1 H1
    go_wp2_with fail
    refine (hG H1).mono ?_; rintro e w2 ⟨rfl, y2⟩
    clear hG d1
    have H2 := (H1.new y2).alloc #[.int .i64 xa, .int .i64 xp, .int .i64 xf, .bool xw, .bool xu, .bool xx, .bool xd] 61
    clear H1 y2
    go_upto_region 3 with fail
    generalize w2.alloc (.cells #[.int .i64 xa, .int .i64 xp, .int .i64 xf, .bool xw, .bool xu, .bool xx, .bool xd] 61) = w3 at *
    skip
    replace H2 := H2.tail
    go_wp2_with fail
    refine (hK H2).mono ?_; rintro e w6 ⟨rfl, y6⟩
    clear hK
    have H3 := H2.new y6
    clear y6 H2
    have H4 := H3.alloc (walkR n W root pn).cs 47
    simp only [Rg.cs] at H4
    go_wp2_with fail
    go_ret
    exact ⟨by rw [p1]; rfl, by rw [p2]; exact H4.tail⟩
end

end Go.Proofs.Ytfckedecpflldaa
