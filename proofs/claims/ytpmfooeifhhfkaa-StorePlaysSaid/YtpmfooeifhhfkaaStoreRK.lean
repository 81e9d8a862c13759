/-
  The document's store: New, Make.
-/
import Derived.Test.YtpmfooeifhhfkaaStoreRJ
import Derived.Test.YtpmfooeifhhfkaaLate
namespace Go.Proofs.Ytpmfooeifhhfkaa
open Go.RowKit Go.Maps
/-- what a call that turns a store leaves -/
def RGo (q rp rb fp n a m : Nat) (s1 : Sr) (LA : Option Addr) (R : List (Option Addr × Nat)) (FS : List Nat) (u : Value) (w : World) (e : Ending) (w' : World) : Prop :=
  e = .returned u ∧ ∃ LA' lc' R' FS', RStX w' q rp rb fp n a m s1 LA' lc' R' FS' ∧ Chg (rb :: q :: (lB LA ++ FS)) w w' ∧ (∀ g ∈ lB LA' ++ FS', g ∈ lB LA ++ FS ∨ w.heap.size ≤ g) ∧ RNew w R R'
theorem Page14_info : ((Try.prog.info? 104).map (fun i => (i.zero, i.size, i.bytes))) = some (some (.agg #[.int .i64 0, .int .i64 0, .int .i64 0, .int .i64 0, .slice none 0 0]), 5, 56) := by kernel_rfl
def slots8 : List Value := sltE.all (List.replicate 8 Slt.no)
theorem mk_slots (w : World) : (Instr.makeSlice 74 (.int .i64 8) (.int .i64 8)).run Try.prog w = .ok (.slice (some ⟨w.heap.size, 0, none⟩) 8 8) (w.alloc (.cells slots8.toArray 45)) := by kernel_rfl
section
variable {q rp rb fp n a m : Nat} {s : Sr} {LA : Option Addr} {lc : Nat} {R : List (Option Addr × Nat)} {FS : List Nat}
theorem RGo.same {w w' : World} (h : RStX w q rp rb fp n a m s LA lc R FS) (y : Chg [] w w') (u : Value) : RGo q rp rb fp n a m s LA R FS u w (.returned u) w' :=
  ⟨rfl, LA, lc, R, FS, h.new y, y.weak (by simp), fun _ h => .inl h, RNew.refl _ _⟩
theorem RCh.go {w w' : World} {s1 : Sr} {u : Value} {e : Ending} (h : RCh q rp rb fp n a m s1 LA lc R FS u w e w') : RGo q rp rb fp n a m s1 LA R FS u w e w' := by
  obtain ⟨he, R', h1, h2, h3⟩ := h
  exact ⟨he, LA, lc, R', FS, h1, h2.weak (fun i _ hi => by simp only [List.mem_cons, List.mem_append] at hi ⊢; rcases hi with hi | hi <;> simp [hi]), fun _ h => .inl h, h3⟩
/-- its pages lie in another row now, one more of them -/
theorem RStX.more {w : World} (h : RStX w q rp rb fp n a m s LA lc R FS) {A : Option Addr} {c : Nat} {p : Pg} {r : Option Addr × Nat} (ho : OwnG rpE w 104 (.slice A (s.L.length + 1) c) (rowsR s.L R ++ [(p.f, p.k, r)])) (hs : OwnG sltE w 45 (.slice r.1 8 r.2) p.s) :
    RStX (w.setCell ⟨q, 2, none⟩ (.slice A (s.L.length + 1) c)) q rp rb fp n a m ⟨s.L ++ [p], s.fr, s.W⟩ A c (R ++ [r]) FS := by
  have hc : Chg [q] w (w.setCell ⟨q, 2, none⟩ (.slice A (s.L.length + 1) c)) := (Chg.refl [q] w).setCell (by simp) _
  have hlen := h.len
  have hl1 : (s.L ++ [p]).length = s.L.length + 1 := by simp
  have hst := h.st.set_ 2 (.slice A (s.L.length + 1) c)
  refine ⟨by show Blk _ q _ #[_, _, .slice A (s.L ++ [p]).length c]; rw [hl1]; simpa using hst, h.hm.chg hc (by have := h.hm.st.type_ne h.st (by decide); simpa using this) (by have := h.hm.ws.type_ne h.st (by decide); simpa using this), h.hf.chg hc (h.hf.nb h.st (by decide) (by decide)), ?_, by simp [hlen], ?_⟩
  · have e : rowsR (s.L ++ [p]) (R ++ [r]) = rowsR s.L R ++ [(p.f, p.k, r)] := by
      unfold rowsR; rw [List.zipWith_append (by omega)]; rfl
    show OwnG rpE _ _ (.slice A (s.L ++ [p]).length c) (rowsR (s.L ++ [p]) (R ++ [r]))
    rw [e, hl1]
    exact ho.chg hc (own_nb ho h.st (by decide))
  · intro j q' r' hq hr
    by_cases hj : j < s.L.length
    · rw [List.getElem?_append_left hj] at hq
      rw [List.getElem?_append_left (by omega)] at hr
      exact (h.hs j q' r' hq hr).chg hc (own_nb (h.hs j q' r' hq hr) h.st (by decide))
    · rw [List.getElem?_append_right (by omega)] at hq hr
      rw [hlen] at hr
      cases e : j - s.L.length with
      | zero => rw [e] at hq hr; cases hq; cases hr; exact hs.chg hc (own_nb hs h.st (by decide))
      | succ k => rw [e] at hq; simp at hq
set_option maxRecDepth 100000 in
set_option maxHeartbeats 2000000 in
theorem RNew14_yes (rp rb n : Nat) (W : List Int) (a m : Nat) (w : World) (hm : RMemAt w rp rb n W) (h : a + m ≤ n) :
    Calls Try.prog 14 #[.pointer (some ⟨rp, 0, none⟩), .int .i64 a, .int .i64 m] w fun e w' => ∃ q fp FS, e = .returned (.pointer (some ⟨q, 0, none⟩)) ∧ RStX w' q rp rb fp n a m ⟨[], dnk a m, W⟩ none 0 [] FS ∧ Chg [] w w' ∧ w.heap.size ≤ q ∧ ∀ g ∈ FS, w.heap.size ≤ g := by
  have hn := hm.le
  have hF := RFNew_at a m w (by omega)
  have hFr := fun w' (y : Chg [] w w') => RFrames_any rp rb n W w' (hm.chg y (by simp) (by simp))
  have hb : decide ((a : Int) + (m : Int) > (n : Int)) = false := decide_eq_false (by omega)
  go_enter Try.func14, Try.ntmps14
  go_wp2_with fail
  refine hF.mono ?_; rintro e w2 ⟨fp, FS, rfl, y2, hf, hg⟩
  go_wp2_with fail
  refine (hFr _ y2).mono ?_; rintro e w3 ⟨rfl, rfl⟩
  go_wp2_with fail
  go_ret
  refine ⟨w2.heap.size, fp, FS, rfl, ⟨Blk.new _ _ _, hm.chg (y2.alloc _) (by simp) (by simp), hf.chg ((Chg.refl [] w2).alloc _) (by simp), OwnG.none_ _ _, rfl, fun j q r hq => by simp at hq⟩, y2.alloc _, y2.size, hg⟩
set_option maxRecDepth 100000 in
set_option maxHeartbeats 2000000 in
theorem RNew14_no (rp rb n : Nat) (W : List Int) (a m : Int) (w : World) (hw : RMemAt w rp rb n W) (hm : -9223372036854775808 ≤ m ∧ m ≤ 9223372036854775807) (h : a < 0 ∨ m < 0 ∨ n < a + m) :
    Calls Try.prog 14 #[.pointer (some ⟨rp, 0, none⟩), .int .i64 a, .int .i64 m] w fun e w' => e = .returned (.pointer none) ∧ Chg [] w w' := by
  have hn := hw.le
  by_cases h1 : a < 0 ∨ m < 0 ∨ 256 < a + m
  · have hF := RFNew_no a m w hm h1
    clear h h1
    go_enter Try.func14, Try.ntmps14
    go_wp2_with fail
    refine hF.mono ?_; rintro e w2 ⟨rfl, rfl⟩
    go_wp2_with fail
    go_ret
    exact ⟨rfl, Chg.refl _ _⟩
  · obtain ⟨A, rfl⟩ := Int.eq_ofNat_of_zero_le (show 0 ≤ a by omega)
    obtain ⟨M, rfl⟩ := Int.eq_ofNat_of_zero_le (show 0 ≤ m by omega)
    have hF := RFNew_at A M w (by omega)
    have hFr := fun w' (y : Chg [] w w') => RFrames_any rp rb n W w' (hw.chg y (by simp) (by simp))
    have hb : decide ((A : Int) + (M : Int) > (n : Int)) = true := decide_eq_true (by omega)
    have h256 : (A : Int) + (M : Int) ≤ 256 := by omega
    clear h h1
    go_enter Try.func14, Try.ntmps14
    go_wp2_with fail
    refine hF.mono ?_; rintro e w2 ⟨fp, FS, rfl, y2, hf, hg⟩
    go_wp2_with fail
    refine (hFr _ y2).mono ?_; rintro e w3 ⟨rfl, rfl⟩
    go_wp2_with fail
    go_ret
    exact ⟨rfl, y2⟩
set_option maxRecDepth 100000 in
set_option maxHeartbeats 16000000 in
theorem RMake_any (k : Ky) (w : World) (h : RStX w q rp rb fp n a m s LA lc R FS) (ok : SrOk n a m s) :
    Calls Try.prog 50 #[.pointer (some ⟨q, 0, none⟩), .agg k.cs] w (RGo q rp rb fp n a m (makeS n s k) LA R FS (.tuple #[.int .i64 (makeV s k), .bool (makeB s k)]) w) := by
  have hfd := fun w' (y : Chg [] w w') => RFind_any k w' (h.new y) ok.le256
  have hmB : makeB s k = ((pgOf s.L k).isNone && k.right && !s.fr.isEmpty) := rfl
  have hno : makeB s k = false → makeS n s k = s ∧ makeV s k = 0 := fun e => by unfold makeS makeV; rw [e]; exact ⟨rfl, rfl⟩
  have y0 := (Chg.refl [] w).alloc (.cells k.cs 24)
  have kb0 := Blk.new w 24 k.cs
  have hkl : w.heap.size < (w.alloc (.cells k.cs 24)).heap.size := by simp
  have hkk : k.cs = #[.int .i64 k.g, .int .i64 k.lev, .int .i64 k.role] := rfl
  simp only [hkk] at kb0 y0 hfd hkl ⊢
  clear hkk
  have x0 := kb0.cell 0; have x1 := kb0.cell 1; have x2 := kb0.cell 2
  simp only [List.getElem?_toArray, List.getElem?_cons_zero, List.getElem?_cons_succ] at x0 x1 x2
  cases hpo : pgOf s.L k with
  | some pk =>
    rw [hpo] at hmB hfd
    simp only [Option.isNone_some, Bool.false_and] at hmB
    obtain ⟨e1, e2⟩ := hno hmB
    rw [e1, e2, hmB]
    simp only [Option.isSome_some] at hfd
    clear hno hmB e1 e2
    go_enter Try.func50, Try.ntmps50
    go_wp2_with fail
    refine (hfd _ y0).mono ?_; rintro e w2 ⟨rfl, y2⟩
    have kb2 := kb0.chg_ y2 (by simp)
    have z2 := y0.trans y2 (by simp)
    clear hfd x0 x1 x2
    obtain ⟨kb, hkb⟩ : ∃ kb, w.heap.size = kb := ⟨_, rfl⟩
    rw [hkb] at kb2 hkl ⊢
    have hkb2 := Nat.lt_of_lt_of_le hkl y2.size
    clear y2 kb0 hkl
    clear y0
    replace hkb := Lib.hid hkb
    have x0 := kb2.cell 0; have x1 := kb2.cell 1; have x2 := kb2.cell 2
    simp only [List.getElem?_toArray, List.getElem?_cons_zero, List.getElem?_cons_succ] at x0 x1 x2
    go_wp2_with fail
    go_ret2
    exact RGo.same h z2 _
  | none =>
    have hfv : findV s.L k = 0 := by unfold findV; rw [hpo]; rfl
    rw [hpo] at hmB hfd
    rw [hfv] at hfd
    simp only [Option.isNone_none, Bool.true_and, Option.isSome_none] at hmB hfd
    clear hfv
    by_cases c1 : k.lev < 1
    · have hr : k.right = false := by unfold Ky.right; exact decide_eq_false (by omega)
      rw [hr] at hmB
      simp only [Bool.false_and] at hmB
      obtain ⟨e1, e2⟩ := hno hmB
      rw [e1, e2, hmB]
      clear hno hmB e1 e2 hr
      have bc1 : decide (k.lev < 1) = true := decide_eq_true c1
      clear c1
      go_enter Try.func50, Try.ntmps50
      go_wp2_with fail
      refine (hfd _ y0).mono ?_; rintro e w2 ⟨rfl, y2⟩
      have kb2 := kb0.chg_ y2 (by simp)
      have z2 := y0.trans y2 (by simp)
      clear hfd x0 x1 x2
      obtain ⟨kb, hkb⟩ : ∃ kb, w.heap.size = kb := ⟨_, rfl⟩
      rw [hkb] at kb2 hkl ⊢
      have hkb2 := Nat.lt_of_lt_of_le hkl y2.size
      clear y2 kb0 hkl
      clear y0
      replace hkb := Lib.hid hkb
      have x0 := kb2.cell 0; have x1 := kb2.cell 1; have x2 := kb2.cell 2
      simp only [List.getElem?_toArray, List.getElem?_cons_zero, List.getElem?_cons_succ] at x0 x1 x2
      go_wp2_with fail
      go_ret2
      exact RGo.same h z2 _
    · have bc1 : decide (k.lev < 1) = false := decide_eq_false c1
      by_cases c2 : k.lev > 3
      · have hr : k.right = false := by unfold Ky.right; exact decide_eq_false (by omega)
        rw [hr] at hmB
        simp only [Bool.false_and] at hmB
        obtain ⟨e1, e2⟩ := hno hmB
        rw [e1, e2, hmB]
        clear hno hmB e1 e2 hr
        have bc2 : decide (k.lev > 3) = true := decide_eq_true c2
        clear c1 c2
        go_enter Try.func50, Try.ntmps50
        go_wp2_with fail
        refine (hfd _ y0).mono ?_; rintro e w2 ⟨rfl, y2⟩
        have kb2 := kb0.chg_ y2 (by simp)
        have z2 := y0.trans y2 (by simp)
        clear hfd x0 x1 x2
        obtain ⟨kb, hkb⟩ : ∃ kb, w.heap.size = kb := ⟨_, rfl⟩
        rw [hkb] at kb2 hkl ⊢
        have hkb2 := Nat.lt_of_lt_of_le hkl y2.size
        clear y2 kb0 hkl
        clear y0
        replace hkb := Lib.hid hkb
        have x0 := kb2.cell 0; have x1 := kb2.cell 1; have x2 := kb2.cell 2
        simp only [List.getElem?_toArray, List.getElem?_cons_zero, List.getElem?_cons_succ] at x0 x1 x2
        go_wp2_with fail
        go_ret2
        exact RGo.same h z2 _
      · have bc2 : decide (k.lev > 3) = false := decide_eq_false c2
        by_cases c3 : k.role < 0
        · have hr : k.right = false := by unfold Ky.right; exact decide_eq_false (by omega)
          rw [hr] at hmB
          simp only [Bool.false_and] at hmB
          obtain ⟨e1, e2⟩ := hno hmB
          rw [e1, e2, hmB]
          clear hno hmB e1 e2 hr
          have bc3 : decide (k.role < 0) = true := decide_eq_true c3
          clear c1 c2 c3
          go_enter Try.func50, Try.ntmps50
          go_wp2_with fail
          refine (hfd _ y0).mono ?_; rintro e w2 ⟨rfl, y2⟩
          have kb2 := kb0.chg_ y2 (by simp)
          have z2 := y0.trans y2 (by simp)
          clear hfd x0 x1 x2
          obtain ⟨kb, hkb⟩ : ∃ kb, w.heap.size = kb := ⟨_, rfl⟩
          rw [hkb] at kb2 hkl ⊢
          have hkb2 := Nat.lt_of_lt_of_le hkl y2.size
          clear y2 kb0 hkl
          clear y0
          replace hkb := Lib.hid hkb
          have x0 := kb2.cell 0; have x1 := kb2.cell 1; have x2 := kb2.cell 2
          simp only [List.getElem?_toArray, List.getElem?_cons_zero, List.getElem?_cons_succ] at x0 x1 x2
          go_wp2_with fail
          go_ret2
          exact RGo.same h z2 _
        · have bc3 : decide (k.role < 0) = false := decide_eq_false c3
          by_cases c4 : k.role > 2
          · have hr : k.right = false := by unfold Ky.right; exact decide_eq_false (by omega)
            rw [hr] at hmB
            simp only [Bool.false_and] at hmB
            obtain ⟨e1, e2⟩ := hno hmB
            rw [e1, e2, hmB]
            clear hno hmB e1 e2 hr
            have bc4 : decide (k.role > 2) = true := decide_eq_true c4
            clear c1 c2 c3 c4
            go_enter Try.func50, Try.ntmps50
            go_wp2_with fail
            refine (hfd _ y0).mono ?_; rintro e w2 ⟨rfl, y2⟩
            have kb2 := kb0.chg_ y2 (by simp)
            have z2 := y0.trans y2 (by simp)
            clear hfd x0 x1 x2
            obtain ⟨kb, hkb⟩ : ∃ kb, w.heap.size = kb := ⟨_, rfl⟩
            rw [hkb] at kb2 hkl ⊢
            have hkb2 := Nat.lt_of_lt_of_le hkl y2.size
            clear y2 kb0 hkl
            clear y0
            replace hkb := Lib.hid hkb
            have x0 := kb2.cell 0; have x1 := kb2.cell 1; have x2 := kb2.cell 2
            simp only [List.getElem?_toArray, List.getElem?_cons_zero, List.getElem?_cons_succ] at x0 x1 x2
            go_wp2_with fail
            go_ret2
            exact RGo.same h z2 _
          · have bc4 : decide (k.role > 2) = false := decide_eq_false c4
            by_cases c5 : k.role > 0 ∧ k.lev ≠ 1
            · have hr : k.right = false := by unfold Ky.right; exact decide_eq_false (by omega)
              rw [hr] at hmB
              simp only [Bool.false_and] at hmB
              obtain ⟨e1, e2⟩ := hno hmB
              rw [e1, e2, hmB]
              clear hno hmB e1 e2 hr
              have bc5 : decide (k.role > 0) = true := decide_eq_true c5.1
              have bc6 : (k.lev != 1) = true := by simpa using c5.2
              clear c1 c2 c3 c4 c5
              go_enter Try.func50, Try.ntmps50
              go_wp2_with fail
              refine (hfd _ y0).mono ?_; rintro e w2 ⟨rfl, y2⟩
              have kb2 := kb0.chg_ y2 (by simp)
              have z2 := y0.trans y2 (by simp)
              clear hfd x0 x1 x2
              obtain ⟨kb, hkb⟩ : ∃ kb, w.heap.size = kb := ⟨_, rfl⟩
              rw [hkb] at kb2 hkl ⊢
              have hkb2 := Nat.lt_of_lt_of_le hkl y2.size
              clear y2 kb0 hkl
              clear y0
              replace hkb := Lib.hid hkb
              have x0 := kb2.cell 0; have x1 := kb2.cell 1; have x2 := kb2.cell 2
              simp only [List.getElem?_toArray, List.getElem?_cons_zero, List.getElem?_cons_succ] at x0 x1 x2
              go_wp2_with fail
              go_ret2
              exact RGo.same h z2 _
            · have hr : k.right = true := by unfold Ky.right; exact decide_eq_true (by omega)
              rw [hr, Bool.true_and] at hmB
              have hlast : ∀ w' (y : Chg [] w w'), Calls Try.prog 76 #[.pointer (some ⟨fp, 0, none⟩)] w' fun e w2 => e = .returned (.tuple #[.int .i64 (takeV s.fr), .bool (takeB s.fr)]) ∧ Chg FS w' w2 ∧ RAt w2 FS fp a m s.fr.dropLast := fun w' y => RTake_at FS fp a m s.fr w' (h.new y).hf (by have := ok.cnt; have := ok.le; have := ok.n256; omega)
              have hf1 := fun w' (y : Chg [] w w') => (h.new y).st.cell 1
              simp only [List.getElem?_toArray, List.getElem?_cons_zero, List.getElem?_cons_succ] at hf1
              cases c6 : decide (k.role > 0)
              · clear c1 c2 c3 c4 c5
                cases hem : s.fr.isEmpty
                · have htb : takeB s.fr = true := by unfold takeB; rw [hem]; rfl
                  rw [htb] at hlast
                  go_enter Try.func50, Try.ntmps50
                  go_wp2_with fail
                  refine (hfd _ y0).mono ?_; rintro e w2 ⟨rfl, y2⟩
                  have kb2 := kb0.chg_ y2 (by simp)
                  have z2 := y0.trans y2 (by simp)
                  clear hfd x0 x1 x2
                  obtain ⟨kb, hkb⟩ : ∃ kb, w.heap.size = kb := ⟨_, rfl⟩
                  rw [hkb] at kb2 hkl ⊢
                  have hkb2 := Nat.lt_of_lt_of_le hkl y2.size
                  clear y2 kb0 hkl
                  clear y0
                  replace hkb := Lib.hid hkb
                  have x0 := kb2.cell 0; have x1 := kb2.cell 1; have x2 := kb2.cell 2
                  simp only [List.getElem?_toArray, List.getElem?_cons_zero, List.getElem?_cons_succ] at x0 x1 x2
                  have q1 := hf1 _ z2
                  go_wp2_with fail
                  refine (hlast _ z2).mono ?_; rintro e w3 ⟨rfl, y3, hf3⟩
                  have y03 : Chg FS w w3 := (z2.weak (by simp)).trans y3 (fun _ _ h => h)
                  have hFS := h.hf.lt
                  have kb3 := kb2.chg_ y3 (fun hm => by have := hFS _ hm; have := hkb.out; omega)
                  have h3 := (h.new z2).frees y3 hf3
                  have hmB' : makeB s k = true := by rw [hmB, hem]; rfl
                  (try rw [hmB'])
                  have hme := make_empty ok hmB'
                  have hmt := Lib.hid hmB'
                  have hms : makeS n s k = ⟨s.L ++ [⟨s.fr.getLastD 0, k, List.replicate 8 Slt.no⟩], s.fr.dropLast, fillW n s.W (s.fr.getLastD 0) (zeros 8)⟩ := by unfold makeS; rw [if_pos hmB']
                  have hmv : makeV s k = s.fr.getLastD 0 := by unfold makeV; rw [if_pos hmB']
                  obtain ⟨f, hf⟩ : ∃ f, s.fr.getLastD 0 = f := ⟨_, rfl⟩
                  rw [show takeV s.fr = s.fr.getLastD 0 from rfl, hf]
                  rw [hf] at hme hms hmv
                  obtain ⟨K, hK0, hKs, hK8⟩ : ∃ K : Nat → List Int, K 0 = s.W ∧ (∀ j : Nat, K (j + 1) = setW n (K j) f j 0) ∧ (⟨s.L ++ [⟨f, k, List.replicate 8 Slt.no⟩], s.fr.dropLast, K 8⟩ : Sr) = makeS n s k := by
                    refine ⟨fun j => (emptyS n ⟨s.L ++ [⟨f, k, List.replicate 8 Slt.no⟩], s.fr.dropLast, s.W⟩ f j).W, rfl, fun _ => rfl, ?_⟩
                    show (⟨_, _, (emptyS n _ f 8).W⟩ : Sr) = _
                    rw [hme, hms]
                  have h3 : RStX w3 q rp rb fp n a m ⟨s.L, s.fr.dropLast, K 0⟩ LA lc R FS := by rw [hK0]; exact h3
                  replace hK8 := Lib.hid hK8; replace hmv := Lib.hid hmv
                  have hst3 := h3.st
                  have hRl : (rowsR s.L R).length = s.L.length := by unfold rowsR; rw [List.length_zipWith, h.len]; omega
                  have hNl := ok.le256
                  clear hf hme hms hK0 hmB hmB' htb hem hpo hno ok hlast hf1 hf3 y3 z2 kb2 hkb2 hkb x0 x1 x2 hFS hr
                  go_upto_region 7 with fail
                  refine wp_region_noPanic ?_
                  refine late_region (S := (fun w' => Chg [] w3 w')) (Z := 15) (by kernel_rfl) ((Chg.refl [] w3).drew) (fun hHeld => ?_)
                  have H : SepC w3 w3.drew [] := (SepC.nil w3).new (Chg.refl [] w3).drew
                  have hmk := mk_slots
                  clear hHeld
                  generalize w3.drew = u at *
                  have hHeld := H.1
                  (refine late_on 0 (some 58) (v := ?_) rfl rfl (by kernel_rfl) (by kernel_rfl) (by kernel_rfl) (by kernel_rfl) (fun _ _ _ h => h) (by rfl) (by assumption) ?_ ?_; rotate_left; · (intro w hSw; go_simp; (try with_reducible rfl)))
                  (try simp only [Act.put, List.setIfInBounds_toArray, List.set_cons_zero, List.set_cons_succ])
                  (refine late_on 2 (some 60) (v := ?_) rfl rfl (by kernel_rfl) (by kernel_rfl) (by kernel_rfl) (by kernel_rfl) (fun _ _ _ h => h) (by rfl) (by assumption) ?_ ?_; rotate_left; · (intro w hSw; go_simp; (try with_reducible rfl)))
                  (try simp only [Act.put, List.setIfInBounds_toArray, List.set_cons_zero, List.set_cons_succ])
                  (refine late_on 3 (some 61) (v := ?_) rfl rfl (by kernel_rfl) (by kernel_rfl) (by kernel_rfl) (by kernel_rfl) (fun _ _ _ h => h) (by rfl) (by assumption) ?_ ?_; rotate_left; · (intro w hSw; go_simp; (try with_reducible rfl)))
                  (try simp only [Act.put, List.setIfInBounds_toArray, List.set_cons_zero, List.set_cons_succ])
                  (refine late_on 4 (some 62) (v := ?_) rfl rfl (by kernel_rfl) (by kernel_rfl) (by kernel_rfl) (by kernel_rfl) (fun _ _ _ h => h) (by rfl) (by assumption) ?_ ?_; rotate_left; · (intro w hSw; go_simp; (try with_reducible rfl)))
                  (try simp only [Act.put, List.setIfInBounds_toArray, List.set_cons_zero, List.set_cons_succ])
                  (refine late_on 5 (some 63) (v := ?_) rfl rfl (by kernel_rfl) (by kernel_rfl) (by kernel_rfl) (by kernel_rfl) (fun _ _ _ h => h) (by rfl) (by assumption) ?_ ?_; rotate_left; · (intro w hSw; (try dsimp only at hSw); have b_ := (hst3.chg_ hSw (by simp)).cell 2; simp only [List.getElem?_toArray, List.getElem?_cons_zero, List.getElem?_cons_succ] at b_; go_simp; (try with_reducible rfl)))
                  (try simp only [Act.put, List.setIfInBounds_toArray, List.set_cons_zero, List.set_cons_succ])
                  (refine late_on 7 (some 65) (v := ?_) rfl rfl (by kernel_rfl) (by kernel_rfl) (by kernel_rfl) (by kernel_rfl) (fun _ _ _ h => h) (by rfl) (by assumption) ?_ ?_; rotate_left; · (intro w hSw; go_simp; (try with_reducible rfl)))
                  (try simp only [Act.put, List.setIfInBounds_toArray, List.set_cons_zero, List.set_cons_succ])
                  (refine late_on 8 (some 66) (v := ?_) rfl rfl (by kernel_rfl) (by kernel_rfl) (by kernel_rfl) (by kernel_rfl) (fun _ _ _ h => h) (by rfl) (by assumption) ?_ ?_; rotate_left; · (intro w hSw; (try dsimp only at hSw); have b_ := kb3.chg_ hSw (by simp); have d0 := b_.cell 0; have d1 := b_.cell 1; have d2 := b_.cell 2; simp only [List.getElem?_toArray, List.getElem?_cons_zero, List.getElem?_cons_succ] at d0 d1 d2; go_simp; (try with_reducible rfl)))
                  (try simp only [Act.put, List.setIfInBounds_toArray, List.set_cons_zero, List.set_cons_succ])
                  refine late_ready (rs := [1, 9]) (by kernel_rfl) (by simp) ?_; refine AllLate.cons (o := _) rfl (fun K hK => ?_) (AllLate.cons (o := _) rfl (fun K hK => ?_) AllLate.nil)
                  · go_simp
                    replace H : SepC w3 (u.alloc (.cells #[] 104)) (blkT u.heap.size 104 (rpE.all []).toArray :: _) := H.alloc _ _
                    replace H := H.litOwn (c := 0) (by simp) (by simp)
                    refine hK.out _ _ (fun _ => by (try dsimp only); exact H.1) ?_
                    clear hK K
                    (try simp only [Act.put, List.setIfInBounds_toArray, List.set_cons_zero, List.set_cons_succ])
                    clear hHeld
                    generalize u.alloc (.cells #[] 104) = u' at *
                    generalize u.heap.size = ga at *
                    clear u
                    obtain ⟨u, hu⟩ : ∃ u, u' = u := ⟨_, rfl⟩
                    rw [hu] at H ⊢
                    clear hu u'
                    have hHeld := H.1
                    refine late_ready (rs := [6, 9]) (by kernel_rfl) (by simp) ?_; refine AllLate.cons (o := _) rfl (fun K hK => ?_) (AllLate.cons (o := _) rfl (fun K hK => ?_) AllLate.nil)
                    · refine step_append_G (E := rpE) (some 64) rfl rfl (.tmp 59) (.tmp 63) 93 rfl 104 (.agg #[.int .i64 0, .int .i64 0, .int .i64 0, .int .i64 0, .slice none 0 0]) 56 Try.underlying93 Page14_info rfl (.slice (some ⟨ga, 0, none⟩) 0 0) [] rfl (H.pick 0 rfl).own LA s.L.length lc (rowsR s.L R) rfl ((h3.hl.new H.1).src) hRl (by simp; omega) (fun v' u' ho5 hc5 hb5 => ?_)
                      rw [List.nil_append] at ho5
                      obtain ⟨A5, c5, rfl, hx1, hx2⟩ := ho5.form
                      clear hx1 hx2
                      rw [hRl] at ho5 hb5 ⊢
                      replace H := (H.pick 0 rfl).app ho5 hc5 hb5
                      clear ho5 hc5 hb5
                      refine hK.out _ _ (fun _ => by (try dsimp only); exact H.1) ?_
                      clear hK K
                      (try simp only [Act.put, List.setIfInBounds_toArray, List.set_cons_zero, List.set_cons_succ])
                      clear hHeld u
                      obtain ⟨u, hu⟩ : ∃ u, u' = u := ⟨_, rfl⟩
                      rw [hu] at H ⊢
                      clear hu u'
                      have hHeld := H.1
                      refine late_ready (rs := [9]) (by kernel_rfl) (by simp) ?_; refine AllLate.cons (o := _) rfl (fun K hK => ?_) AllLate.nil
                      go_simp
                      replace H : SepC w3 (u.alloc (.cells slots8.toArray 45)) (blkT u.heap.size 45 (sltE.all (List.replicate 8 Slt.no)).toArray :: _) := H.alloc _ _
                      replace H := H.litOwn (c := 8) (by simp) (by simp)
                      refine hK.out _ _ (fun _ => by (try dsimp only); exact H.1) ?_
                      clear hK K
                      (try simp only [Act.put, List.setIfInBounds_toArray, List.set_cons_zero, List.set_cons_succ])
                      clear hHeld
                      generalize u.alloc (.cells slots8.toArray 45) = u' at *
                      generalize u.heap.size = gm at *
                      clear u
                      obtain ⟨u, hu⟩ : ∃ u, u' = u := ⟨_, rfl⟩
                      rw [hu] at H ⊢
                      clear hu u'
                      have hHeld := H.1
                      (refine late_on 10 (some 68) (v := ?_) rfl rfl (by kernel_rfl) (by kernel_rfl) (by kernel_rfl) (by kernel_rfl) (fun _ _ _ h => h) (by rfl) (by assumption) ?_ ?_; rotate_left; · (intro w hSw; go_simp; (try with_reducible rfl)))
                      (try simp only [Act.put, List.setIfInBounds_toArray, List.set_cons_zero, List.set_cons_succ])
                      refine late_ready (rs := [11]) (by kernel_rfl) (by simp) ?_; refine AllLate.cons (o := _) rfl (fun K hK => ?_) AllLate.nil
                      go_simp
                      replace H : SepC w3 (u.alloc (.cells #[.int .i64 f, .int .i64 k.g, .int .i64 k.lev, .int .i64 k.role, .slice (some ⟨gm, 0, none⟩) 8 8] 104)) (blkT u.heap.size 104 (rpE.all [(f, k, (some ⟨gm, 0, none⟩, 8))]).toArray :: _) := H.alloc _ _
                      replace H := H.litOwn (c := 1) (by simp) (by simp)
                      refine hK.out _ _ (fun _ => by (try dsimp only); exact H.1) ?_
                      clear hK K
                      (try simp only [Act.put, List.setIfInBounds_toArray, List.set_cons_zero, List.set_cons_succ])
                      clear hHeld
                      generalize u.alloc (.cells #[.int .i64 f, .int .i64 k.g, .int .i64 k.lev, .int .i64 k.role, .slice (some ⟨gm, 0, none⟩) 8 8] 104) = u' at *
                      generalize u.heap.size = gg at *
                      clear u
                      obtain ⟨u, hu⟩ : ∃ u, u' = u := ⟨_, rfl⟩
                      rw [hu] at H ⊢
                      clear hu u'
                      have hHeld := H.1
                      refine late_ready (rs := [12]) (by kernel_rfl) (by simp) ?_; refine AllLate.cons (o := _) rfl (fun K hK => ?_) AllLate.nil
                      refine step_append_G (E := rpE) (some 70) rfl rfl (.tmp 64) (.tmp 69) 93 rfl 104 (.agg #[.int .i64 0, .int .i64 0, .int .i64 0, .int .i64 0, .slice none 0 0]) 56 Try.underlying93 Page14_info rfl (.slice A5 s.L.length c5) (rowsR s.L R) rfl (H.pick 2 rfl).own (some ⟨gg, 0, none⟩) 1 1 [(f, k, (some ⟨gm, 0, none⟩, 8))] rfl ((H.pick 0 rfl).own.src) rfl (by rw [hRl]; omega) (fun v' u' ho5 hc5 hb5 => ?_)
                      obtain ⟨A6, c6, rfl, hx1, hx2⟩ := ho5.form
                      clear hx1 hx2
                      have hl6 : (rowsR s.L R ++ [(f, k, ((some ⟨gm, 0, none⟩ : Option Addr), 8))]).length = s.L.length + 1 := by rw [List.length_append, hRl]; rfl
                      rw [hl6] at ho5 hb5 ⊢
                      replace H := (H.pick 2 rfl).app ho5 hc5 hb5
                      clear ho5 hc5 hb5 hl6
                      refine hK.out _ _ (fun _ => by (try dsimp only); exact H.1) ?_
                      clear hK K
                      (try simp only [Act.put, List.setIfInBounds_toArray, List.set_cons_zero, List.set_cons_succ])
                      clear hHeld u
                      have hqu := hst3.chg_ H.1 (by simp)
                      have c2 := hqu.cell 2; have f2 := hqu.frozen 2
                      simp only [List.getElem?_toArray, List.getElem?_cons_zero, List.getElem?_cons_succ] at c2
                      refine late_ready (rs := [13]) (by kernel_rfl) (by simp) ?_; refine AllLate.cons (o := _) rfl (fun K hK => ?_) AllLate.nil
                      go_simp
                      refine hK.out _ _ (fun _ => by (try dsimp only); exact H.1) ?_
                      clear hK K
                      (try simp only [Act.put, List.setIfInBounds_toArray, List.set_cons_zero, List.set_cons_succ])
                      refine late_ready (rs := [14]) (by kernel_rfl) (by simp) ?_; refine AllLate.cons (o := _) rfl (fun K hK => ?_) AllLate.nil
                      go_simp
                      refine hK.out _ _ (fun _ => by (try dsimp only); exact H.1) ?_
                      clear hK K
                      (try simp only [Act.put, List.setIfInBounds_toArray, List.set_cons_zero, List.set_cons_succ])
                      refine late_ready (rs := [15]) (by kernel_rfl) (by simp) ?_; refine AllLate.cons (o := _) rfl (fun K hK => ?_) AllLate.nil
                      go_simp
                      refine hK.out _ _ (fun e => absurd rfl e) ?_
                      clear hK K
                      (try simp only [Act.put, List.setIfInBounds_toArray, List.set_cons_zero, List.set_cons_succ])
                      refine late_done (by kernel_rfl) ?_ _
                      refine NoPanic.normal ?_
                      have hmore := (h3.new H.1).more (p := ⟨f, k, List.replicate 8 Slt.no⟩) (r := (some ⟨gm, 0, none⟩, 8)) (H.pick 0 rfl).own (H.pick 2 rfl).own
                      have hA6 : ∀ g ∈ lB A6, w.heap.size ≤ g := fun g hg => by
                        obtain ⟨S_, ⟨e_, _⟩, hS_⟩ := H.fst
                        have := hS_ g (by rw [e_]; cases A6 <;> exact hg)
                        have := y03.size; omega
                      have hgm : w.heap.size ≤ gm := by
                        obtain ⟨S_, ⟨e_, _⟩, hS_⟩ := (H.pick 2 rfl).fst
                        have := hS_ gm (by rw [e_]; simp [Value.ownBlock])
                        have := y03.size; omega
                      have hyv : Chg (rb :: q :: FS) w (u'.setCell ⟨q, 2, none⟩ (.slice A6 (s.L.length + 1) c6)) := ((y03.weak (fun i_ _ hi_ => by simp [hi_])).trans H.1 (by simp)).setCell (p := ⟨q, 2, none⟩) (by simp) _
                      clear hqu c2 f2 H h3 hst3 kb3 hRl
                      generalize u'.setCell ⟨q, 2, none⟩ (.slice A6 (s.L.length + 1) c6) = v0 at *
                      clear u'
                      go_wp2_with fail
                      go_loopw [10] (fun s10 wr => ∃ j : Nat, j ≤ 8 ∧ s10 = .int .i64 j ∧ RStX wr q rp rb fp n a m ⟨s.L ++ [⟨f, k, List.replicate 8 Slt.no⟩], s.fr.dropLast, K j⟩ A6 c6 (R ++ [(some ⟨gm, 0, none⟩, 8)]) FS ∧ Chg (rb :: q :: FS) w wr) (fun s10 _ => 8 - (intOf s10).toNat)
                      case atStart => exact ⟨0, by omega, rfl, hmore, hyv⟩
                      case round =>
                        obtain ⟨j, hj, rfl, hr, y⟩ := hrel
                        clear hmore hyv
                        by_cases hlt : j < 8
                        · have hjz : (j : Int) < 8 := by omega
                          have hset := RSet_at rp rb n (K j) f j 0 wr hr.hm
                          rw [← hKs] at hset
                          have c0 := hr.st.cell 0
                          simp only [List.getElem?_toArray, List.getElem?_cons_zero] at c0
                          go_wp2_with fail
                          refine hset.mono ?_; rintro e w9 ⟨rfl, y9, hm9⟩
                          have hr9 := hr.words y9 hm9
                          clear hset c0 hr
                          go_wp2_with fail
                          go_roundw
                          case rel => exact ⟨j + 1, by omega, by go_num, hr9, y.trans y9 (fun i_ _ hi_ => by simp only [List.mem_singleton] at hi_; subst hi_; simp)⟩
                          case measure => simp [intOf]; omega
                        · obtain rfl : j = 8 := by omega
                          have hjz : ¬ ((8 : Nat) : Int) < 8 := by omega
                          go_wp2_with fail
                          go_ret2
                          refine ⟨by (first | (rw [hmv.out, hmt.out]; rfl) | (rw [hmv.out]; rfl)), A6, c6, _, FS, by rw [hK8.out] at hr; exact hr, y.weak (fun i_ _ hi_ => by simp only [List.mem_cons, List.mem_append] at hi_ ⊢; rcases hi_ with h_ | h_ | h_ <;> simp [h_]), fun g_ hg_ => ?_, fun r_ hr_ => ?_⟩
                          · rw [List.mem_append] at hg_
                            rcases hg_ with h_ | h_
                            · exact .inr (hA6 g_ h_)
                            · exact .inl (by simp [h_])
                          · rw [List.mem_append] at hr_
                            rcases hr_ with h_ | h_
                            · exact .inl h_
                            · rw [List.mem_singleton] at h_; subst h_; exact .inr ⟨gm, rfl, hgm⟩
                    · go_simp
                      replace H : SepC w3 (u.alloc (.cells slots8.toArray 45)) (blkT u.heap.size 45 (sltE.all (List.replicate 8 Slt.no)).toArray :: _) := H.alloc _ _
                      replace H := H.litOwn (c := 8) (by simp) (by simp)
                      refine hK.out _ _ (fun _ => by (try dsimp only); exact H.1) ?_
                      clear hK K
                      (try simp only [Act.put, List.setIfInBounds_toArray, List.set_cons_zero, List.set_cons_succ])
                      clear hHeld
                      generalize u.alloc (.cells slots8.toArray 45) = u' at *
                      generalize u.heap.size = gm at *
                      clear u
                      obtain ⟨u, hu⟩ : ∃ u, u' = u := ⟨_, rfl⟩
                      rw [hu] at H ⊢
                      clear hu u'
                      have hHeld := H.1
                      (refine late_on 10 (some 68) (v := ?_) rfl rfl (by kernel_rfl) (by kernel_rfl) (by kernel_rfl) (by kernel_rfl) (fun _ _ _ h => h) (by rfl) (by assumption) ?_ ?_; rotate_left; · (intro w hSw; go_simp; (try with_reducible rfl)))
                      (try simp only [Act.put, List.setIfInBounds_toArray, List.set_cons_zero, List.set_cons_succ])
                      refine late_ready (rs := [6, 11]) (by kernel_rfl) (by simp) ?_; refine AllLate.cons (o := _) rfl (fun K hK => ?_) (AllLate.cons (o := _) rfl (fun K hK => ?_) AllLate.nil)
                      · refine step_append_G (E := rpE) (some 64) rfl rfl (.tmp 59) (.tmp 63) 93 rfl 104 (.agg #[.int .i64 0, .int .i64 0, .int .i64 0, .int .i64 0, .slice none 0 0]) 56 Try.underlying93 Page14_info rfl (.slice (some ⟨ga, 0, none⟩) 0 0) [] rfl (H.pick 1 rfl).own LA s.L.length lc (rowsR s.L R) rfl ((h3.hl.new H.1).src) hRl (by simp; omega) (fun v' u' ho5 hc5 hb5 => ?_)
                        rw [List.nil_append] at ho5
                        obtain ⟨A5, c5, rfl, hx1, hx2⟩ := ho5.form
                        clear hx1 hx2
                        rw [hRl] at ho5 hb5 ⊢
                        replace H := (H.pick 1 rfl).app ho5 hc5 hb5
                        clear ho5 hc5 hb5
                        refine hK.out _ _ (fun _ => by (try dsimp only); exact H.1) ?_
                        clear hK K
                        (try simp only [Act.put, List.setIfInBounds_toArray, List.set_cons_zero, List.set_cons_succ])
                        clear hHeld u
                        obtain ⟨u, hu⟩ : ∃ u, u' = u := ⟨_, rfl⟩
                        rw [hu] at H ⊢
                        clear hu u'
                        have hHeld := H.1
                        refine late_ready (rs := [11]) (by kernel_rfl) (by simp) ?_; refine AllLate.cons (o := _) rfl (fun K hK => ?_) AllLate.nil
                        go_simp
                        replace H : SepC w3 (u.alloc (.cells #[.int .i64 f, .int .i64 k.g, .int .i64 k.lev, .int .i64 k.role, .slice (some ⟨gm, 0, none⟩) 8 8] 104)) (blkT u.heap.size 104 (rpE.all [(f, k, (some ⟨gm, 0, none⟩, 8))]).toArray :: _) := H.alloc _ _
                        replace H := H.litOwn (c := 1) (by simp) (by simp)
                        refine hK.out _ _ (fun _ => by (try dsimp only); exact H.1) ?_
                        clear hK K
                        (try simp only [Act.put, List.setIfInBounds_toArray, List.set_cons_zero, List.set_cons_succ])
                        clear hHeld
                        generalize u.alloc (.cells #[.int .i64 f, .int .i64 k.g, .int .i64 k.lev, .int .i64 k.role, .slice (some ⟨gm, 0, none⟩) 8 8] 104) = u' at *
                        generalize u.heap.size = gg at *
                        clear u
                        obtain ⟨u, hu⟩ : ∃ u, u' = u := ⟨_, rfl⟩
                        rw [hu] at H ⊢
                        clear hu u'
                        have hHeld := H.1
                        refine late_ready (rs := [12]) (by kernel_rfl) (by simp) ?_; refine AllLate.cons (o := _) rfl (fun K hK => ?_) AllLate.nil
                        refine step_append_G (E := rpE) (some 70) rfl rfl (.tmp 64) (.tmp 69) 93 rfl 104 (.agg #[.int .i64 0, .int .i64 0, .int .i64 0, .int .i64 0, .slice none 0 0]) 56 Try.underlying93 Page14_info rfl (.slice A5 s.L.length c5) (rowsR s.L R) rfl (H.pick 1 rfl).own (some ⟨gg, 0, none⟩) 1 1 [(f, k, (some ⟨gm, 0, none⟩, 8))] rfl ((H.pick 0 rfl).own.src) rfl (by rw [hRl]; omega) (fun v' u' ho5 hc5 hb5 => ?_)
                        obtain ⟨A6, c6, rfl, hx1, hx2⟩ := ho5.form
                        clear hx1 hx2
                        have hl6 : (rowsR s.L R ++ [(f, k, ((some ⟨gm, 0, none⟩ : Option Addr), 8))]).length = s.L.length + 1 := by rw [List.length_append, hRl]; rfl
                        rw [hl6] at ho5 hb5 ⊢
                        replace H := (H.pick 1 rfl).app ho5 hc5 hb5
                        clear ho5 hc5 hb5 hl6
                        refine hK.out _ _ (fun _ => by (try dsimp only); exact H.1) ?_
                        clear hK K
                        (try simp only [Act.put, List.setIfInBounds_toArray, List.set_cons_zero, List.set_cons_succ])
                        clear hHeld u
                        have hqu := hst3.chg_ H.1 (by simp)
                        have c2 := hqu.cell 2; have f2 := hqu.frozen 2
                        simp only [List.getElem?_toArray, List.getElem?_cons_zero, List.getElem?_cons_succ] at c2
                        refine late_ready (rs := [13]) (by kernel_rfl) (by simp) ?_; refine AllLate.cons (o := _) rfl (fun K hK => ?_) AllLate.nil
                        go_simp
                        refine hK.out _ _ (fun _ => by (try dsimp only); exact H.1) ?_
                        clear hK K
                        (try simp only [Act.put, List.setIfInBounds_toArray, List.set_cons_zero, List.set_cons_succ])
                        refine late_ready (rs := [14]) (by kernel_rfl) (by simp) ?_; refine AllLate.cons (o := _) rfl (fun K hK => ?_) AllLate.nil
                        go_simp
                        refine hK.out _ _ (fun _ => by (try dsimp only); exact H.1) ?_
                        clear hK K
                        (try simp only [Act.put, List.setIfInBounds_toArray, List.set_cons_zero, List.set_cons_succ])
                        refine late_ready (rs := [15]) (by kernel_rfl) (by simp) ?_; refine AllLate.cons (o := _) rfl (fun K hK => ?_) AllLate.nil
                        go_simp
                        refine hK.out _ _ (fun e => absurd rfl e) ?_
                        clear hK K
                        (try simp only [Act.put, List.setIfInBounds_toArray, List.set_cons_zero, List.set_cons_succ])
                        refine late_done (by kernel_rfl) ?_ _
                        refine NoPanic.normal ?_
                        have hmore := (h3.new H.1).more (p := ⟨f, k, List.replicate 8 Slt.no⟩) (r := (some ⟨gm, 0, none⟩, 8)) (H.pick 0 rfl).own (H.pick 2 rfl).own
                        have hA6 : ∀ g ∈ lB A6, w.heap.size ≤ g := fun g hg => by
                          obtain ⟨S_, ⟨e_, _⟩, hS_⟩ := H.fst
                          have := hS_ g (by rw [e_]; cases A6 <;> exact hg)
                          have := y03.size; omega
                        have hgm : w.heap.size ≤ gm := by
                          obtain ⟨S_, ⟨e_, _⟩, hS_⟩ := (H.pick 2 rfl).fst
                          have := hS_ gm (by rw [e_]; simp [Value.ownBlock])
                          have := y03.size; omega
                        have hyv : Chg (rb :: q :: FS) w (u'.setCell ⟨q, 2, none⟩ (.slice A6 (s.L.length + 1) c6)) := ((y03.weak (fun i_ _ hi_ => by simp [hi_])).trans H.1 (by simp)).setCell (p := ⟨q, 2, none⟩) (by simp) _
                        clear hqu c2 f2 H h3 hst3 kb3 hRl
                        generalize u'.setCell ⟨q, 2, none⟩ (.slice A6 (s.L.length + 1) c6) = v0 at *
                        clear u'
                        go_wp2_with fail
                        go_loopw [10] (fun s10 wr => ∃ j : Nat, j ≤ 8 ∧ s10 = .int .i64 j ∧ RStX wr q rp rb fp n a m ⟨s.L ++ [⟨f, k, List.replicate 8 Slt.no⟩], s.fr.dropLast, K j⟩ A6 c6 (R ++ [(some ⟨gm, 0, none⟩, 8)]) FS ∧ Chg (rb :: q :: FS) w wr) (fun s10 _ => 8 - (intOf s10).toNat)
                        case atStart => exact ⟨0, by omega, rfl, hmore, hyv⟩
                        case round =>
                          obtain ⟨j, hj, rfl, hr, y⟩ := hrel
                          clear hmore hyv
                          by_cases hlt : j < 8
                          · have hjz : (j : Int) < 8 := by omega
                            have hset := RSet_at rp rb n (K j) f j 0 wr hr.hm
                            rw [← hKs] at hset
                            have c0 := hr.st.cell 0
                            simp only [List.getElem?_toArray, List.getElem?_cons_zero] at c0
                            go_wp2_with fail
                            refine hset.mono ?_; rintro e w9 ⟨rfl, y9, hm9⟩
                            have hr9 := hr.words y9 hm9
                            clear hset c0 hr
                            go_wp2_with fail
                            go_roundw
                            case rel => exact ⟨j + 1, by omega, by go_num, hr9, y.trans y9 (fun i_ _ hi_ => by simp only [List.mem_singleton] at hi_; subst hi_; simp)⟩
                            case measure => simp [intOf]; omega
                          · obtain rfl : j = 8 := by omega
                            have hjz : ¬ ((8 : Nat) : Int) < 8 := by omega
                            go_wp2_with fail
                            go_ret2
                            refine ⟨by (first | (rw [hmv.out, hmt.out]; rfl) | (rw [hmv.out]; rfl)), A6, c6, _, FS, by rw [hK8.out] at hr; exact hr, y.weak (fun i_ _ hi_ => by simp only [List.mem_cons, List.mem_append] at hi_ ⊢; rcases hi_ with h_ | h_ | h_ <;> simp [h_]), fun g_ hg_ => ?_, fun r_ hr_ => ?_⟩
                            · rw [List.mem_append] at hg_
                              rcases hg_ with h_ | h_
                              · exact .inr (hA6 g_ h_)
                              · exact .inl (by simp [h_])
                            · rw [List.mem_append] at hr_
                              rcases hr_ with h_ | h_
                              · exact .inl h_
                              · rw [List.mem_singleton] at h_; subst h_; exact .inr ⟨gm, rfl, hgm⟩
                      · go_simp
                        replace H : SepC w3 (u.alloc (.cells #[.int .i64 f, .int .i64 k.g, .int .i64 k.lev, .int .i64 k.role, .slice (some ⟨gm, 0, none⟩) 8 8] 104)) (blkT u.heap.size 104 (rpE.all [(f, k, (some ⟨gm, 0, none⟩, 8))]).toArray :: _) := H.alloc _ _
                        replace H := H.litOwn (c := 1) (by simp) (by simp)
                        refine hK.out _ _ (fun _ => by (try dsimp only); exact H.1) ?_
                        clear hK K
                        (try simp only [Act.put, List.setIfInBounds_toArray, List.set_cons_zero, List.set_cons_succ])
                        clear hHeld
                        generalize u.alloc (.cells #[.int .i64 f, .int .i64 k.g, .int .i64 k.lev, .int .i64 k.role, .slice (some ⟨gm, 0, none⟩) 8 8] 104) = u' at *
                        generalize u.heap.size = gg at *
                        clear u
                        obtain ⟨u, hu⟩ : ∃ u, u' = u := ⟨_, rfl⟩
                        rw [hu] at H ⊢
                        clear hu u'
                        have hHeld := H.1
                        refine late_ready (rs := [6]) (by kernel_rfl) (by simp) ?_; refine AllLate.cons (o := _) rfl (fun K hK => ?_) AllLate.nil
                        refine step_append_G (E := rpE) (some 64) rfl rfl (.tmp 59) (.tmp 63) 93 rfl 104 (.agg #[.int .i64 0, .int .i64 0, .int .i64 0, .int .i64 0, .slice none 0 0]) 56 Try.underlying93 Page14_info rfl (.slice (some ⟨ga, 0, none⟩) 0 0) [] rfl (H.pick 2 rfl).own LA s.L.length lc (rowsR s.L R) rfl ((h3.hl.new H.1).src) hRl (by simp; omega) (fun v' u' ho5 hc5 hb5 => ?_)
                        rw [List.nil_append] at ho5
                        obtain ⟨A5, c5, rfl, hx1, hx2⟩ := ho5.form
                        clear hx1 hx2
                        rw [hRl] at ho5 hb5 ⊢
                        replace H := (H.pick 2 rfl).app ho5 hc5 hb5
                        clear ho5 hc5 hb5
                        refine hK.out _ _ (fun _ => by (try dsimp only); exact H.1) ?_
                        clear hK K
                        (try simp only [Act.put, List.setIfInBounds_toArray, List.set_cons_zero, List.set_cons_succ])
                        clear hHeld u
                        obtain ⟨u, hu⟩ : ∃ u, u' = u := ⟨_, rfl⟩
                        rw [hu] at H ⊢
                        clear hu u'
                        have hHeld := H.1
                        refine late_ready (rs := [12]) (by kernel_rfl) (by simp) ?_; refine AllLate.cons (o := _) rfl (fun K hK => ?_) AllLate.nil
                        refine step_append_G (E := rpE) (some 70) rfl rfl (.tmp 64) (.tmp 69) 93 rfl 104 (.agg #[.int .i64 0, .int .i64 0, .int .i64 0, .int .i64 0, .slice none 0 0]) 56 Try.underlying93 Page14_info rfl (.slice A5 s.L.length c5) (rowsR s.L R) rfl (H.pick 0 rfl).own (some ⟨gg, 0, none⟩) 1 1 [(f, k, (some ⟨gm, 0, none⟩, 8))] rfl ((H.pick 1 rfl).own.src) rfl (by rw [hRl]; omega) (fun v' u' ho5 hc5 hb5 => ?_)
                        obtain ⟨A6, c6, rfl, hx1, hx2⟩ := ho5.form
                        clear hx1 hx2
                        have hl6 : (rowsR s.L R ++ [(f, k, ((some ⟨gm, 0, none⟩ : Option Addr), 8))]).length = s.L.length + 1 := by rw [List.length_append, hRl]; rfl
                        rw [hl6] at ho5 hb5 ⊢
                        replace H := (H.pick 0 rfl).app ho5 hc5 hb5
                        clear ho5 hc5 hb5 hl6
                        refine hK.out _ _ (fun _ => by (try dsimp only); exact H.1) ?_
                        clear hK K
                        (try simp only [Act.put, List.setIfInBounds_toArray, List.set_cons_zero, List.set_cons_succ])
                        clear hHeld u
                        have hqu := hst3.chg_ H.1 (by simp)
                        have c2 := hqu.cell 2; have f2 := hqu.frozen 2
                        simp only [List.getElem?_toArray, List.getElem?_cons_zero, List.getElem?_cons_succ] at c2
                        refine late_ready (rs := [13]) (by kernel_rfl) (by simp) ?_; refine AllLate.cons (o := _) rfl (fun K hK => ?_) AllLate.nil
                        go_simp
                        refine hK.out _ _ (fun _ => by (try dsimp only); exact H.1) ?_
                        clear hK K
                        (try simp only [Act.put, List.setIfInBounds_toArray, List.set_cons_zero, List.set_cons_succ])
                        refine late_ready (rs := [14]) (by kernel_rfl) (by simp) ?_; refine AllLate.cons (o := _) rfl (fun K hK => ?_) AllLate.nil
                        go_simp
                        refine hK.out _ _ (fun _ => by (try dsimp only); exact H.1) ?_
                        clear hK K
                        (try simp only [Act.put, List.setIfInBounds_toArray, List.set_cons_zero, List.set_cons_succ])
                        refine late_ready (rs := [15]) (by kernel_rfl) (by simp) ?_; refine AllLate.cons (o := _) rfl (fun K hK => ?_) AllLate.nil
                        go_simp
                        refine hK.out _ _ (fun e => absurd rfl e) ?_
                        clear hK K
                        (try simp only [Act.put, List.setIfInBounds_toArray, List.set_cons_zero, List.set_cons_succ])
                        refine late_done (by kernel_rfl) ?_ _
                        refine NoPanic.normal ?_
                        have hmore := (h3.new H.1).more (p := ⟨f, k, List.replicate 8 Slt.no⟩) (r := (some ⟨gm, 0, none⟩, 8)) (H.pick 0 rfl).own (H.pick 2 rfl).own
                        have hA6 : ∀ g ∈ lB A6, w.heap.size ≤ g := fun g hg => by
                          obtain ⟨S_, ⟨e_, _⟩, hS_⟩ := H.fst
                          have := hS_ g (by rw [e_]; cases A6 <;> exact hg)
                          have := y03.size; omega
                        have hgm : w.heap.size ≤ gm := by
                          obtain ⟨S_, ⟨e_, _⟩, hS_⟩ := (H.pick 2 rfl).fst
                          have := hS_ gm (by rw [e_]; simp [Value.ownBlock])
                          have := y03.size; omega
                        have hyv : Chg (rb :: q :: FS) w (u'.setCell ⟨q, 2, none⟩ (.slice A6 (s.L.length + 1) c6)) := ((y03.weak (fun i_ _ hi_ => by simp [hi_])).trans H.1 (by simp)).setCell (p := ⟨q, 2, none⟩) (by simp) _
                        clear hqu c2 f2 H h3 hst3 kb3 hRl
                        generalize u'.setCell ⟨q, 2, none⟩ (.slice A6 (s.L.length + 1) c6) = v0 at *
                        clear u'
                        go_wp2_with fail
                        go_loopw [10] (fun s10 wr => ∃ j : Nat, j ≤ 8 ∧ s10 = .int .i64 j ∧ RStX wr q rp rb fp n a m ⟨s.L ++ [⟨f, k, List.replicate 8 Slt.no⟩], s.fr.dropLast, K j⟩ A6 c6 (R ++ [(some ⟨gm, 0, none⟩, 8)]) FS ∧ Chg (rb :: q :: FS) w wr) (fun s10 _ => 8 - (intOf s10).toNat)
                        case atStart => exact ⟨0, by omega, rfl, hmore, hyv⟩
                        case round =>
                          obtain ⟨j, hj, rfl, hr, y⟩ := hrel
                          clear hmore hyv
                          by_cases hlt : j < 8
                          · have hjz : (j : Int) < 8 := by omega
                            have hset := RSet_at rp rb n (K j) f j 0 wr hr.hm
                            rw [← hKs] at hset
                            have c0 := hr.st.cell 0
                            simp only [List.getElem?_toArray, List.getElem?_cons_zero] at c0
                            go_wp2_with fail
                            refine hset.mono ?_; rintro e w9 ⟨rfl, y9, hm9⟩
                            have hr9 := hr.words y9 hm9
                            clear hset c0 hr
                            go_wp2_with fail
                            go_roundw
                            case rel => exact ⟨j + 1, by omega, by go_num, hr9, y.trans y9 (fun i_ _ hi_ => by simp only [List.mem_singleton] at hi_; subst hi_; simp)⟩
                            case measure => simp [intOf]; omega
                          · obtain rfl : j = 8 := by omega
                            have hjz : ¬ ((8 : Nat) : Int) < 8 := by omega
                            go_wp2_with fail
                            go_ret2
                            refine ⟨by (first | (rw [hmv.out, hmt.out]; rfl) | (rw [hmv.out]; rfl)), A6, c6, _, FS, by rw [hK8.out] at hr; exact hr, y.weak (fun i_ _ hi_ => by simp only [List.mem_cons, List.mem_append] at hi_ ⊢; rcases hi_ with h_ | h_ | h_ <;> simp [h_]), fun g_ hg_ => ?_, fun r_ hr_ => ?_⟩
                            · rw [List.mem_append] at hg_
                              rcases hg_ with h_ | h_
                              · exact .inr (hA6 g_ h_)
                              · exact .inl (by simp [h_])
                            · rw [List.mem_append] at hr_
                              rcases hr_ with h_ | h_
                              · exact .inl h_
                              · rw [List.mem_singleton] at h_; subst h_; exact .inr ⟨gm, rfl, hgm⟩
                  · go_simp
                    replace H : SepC w3 (u.alloc (.cells slots8.toArray 45)) (blkT u.heap.size 45 (sltE.all (List.replicate 8 Slt.no)).toArray :: _) := H.alloc _ _
                    replace H := H.litOwn (c := 8) (by simp) (by simp)
                    refine hK.out _ _ (fun _ => by (try dsimp only); exact H.1) ?_
                    clear hK K
                    (try simp only [Act.put, List.setIfInBounds_toArray, List.set_cons_zero, List.set_cons_succ])
                    clear hHeld
                    generalize u.alloc (.cells slots8.toArray 45) = u' at *
                    generalize u.heap.size = gm at *
                    clear u
                    obtain ⟨u, hu⟩ : ∃ u, u' = u := ⟨_, rfl⟩
                    rw [hu] at H ⊢
                    clear hu u'
                    have hHeld := H.1
                    (refine late_on 10 (some 68) (v := ?_) rfl rfl (by kernel_rfl) (by kernel_rfl) (by kernel_rfl) (by kernel_rfl) (fun _ _ _ h => h) (by rfl) (by assumption) ?_ ?_; rotate_left; · (intro w hSw; go_simp; (try with_reducible rfl)))
                    (try simp only [Act.put, List.setIfInBounds_toArray, List.set_cons_zero, List.set_cons_succ])
                    refine late_ready (rs := [1, 11]) (by kernel_rfl) (by simp) ?_; refine AllLate.cons (o := _) rfl (fun K hK => ?_) (AllLate.cons (o := _) rfl (fun K hK => ?_) AllLate.nil)
                    · go_simp
                      replace H : SepC w3 (u.alloc (.cells #[] 104)) (blkT u.heap.size 104 (rpE.all []).toArray :: _) := H.alloc _ _
                      replace H := H.litOwn (c := 0) (by simp) (by simp)
                      refine hK.out _ _ (fun _ => by (try dsimp only); exact H.1) ?_
                      clear hK K
                      (try simp only [Act.put, List.setIfInBounds_toArray, List.set_cons_zero, List.set_cons_succ])
                      clear hHeld
                      generalize u.alloc (.cells #[] 104) = u' at *
                      generalize u.heap.size = ga at *
                      clear u
                      obtain ⟨u, hu⟩ : ∃ u, u' = u := ⟨_, rfl⟩
                      rw [hu] at H ⊢
                      clear hu u'
                      have hHeld := H.1
                      refine late_ready (rs := [6, 11]) (by kernel_rfl) (by simp) ?_; refine AllLate.cons (o := _) rfl (fun K hK => ?_) (AllLate.cons (o := _) rfl (fun K hK => ?_) AllLate.nil)
                      · refine step_append_G (E := rpE) (some 64) rfl rfl (.tmp 59) (.tmp 63) 93 rfl 104 (.agg #[.int .i64 0, .int .i64 0, .int .i64 0, .int .i64 0, .slice none 0 0]) 56 Try.underlying93 Page14_info rfl (.slice (some ⟨ga, 0, none⟩) 0 0) [] rfl (H.pick 0 rfl).own LA s.L.length lc (rowsR s.L R) rfl ((h3.hl.new H.1).src) hRl (by simp; omega) (fun v' u' ho5 hc5 hb5 => ?_)
                        rw [List.nil_append] at ho5
                        obtain ⟨A5, c5, rfl, hx1, hx2⟩ := ho5.form
                        clear hx1 hx2
                        rw [hRl] at ho5 hb5 ⊢
                        replace H := (H.pick 0 rfl).app ho5 hc5 hb5
                        clear ho5 hc5 hb5
                        refine hK.out _ _ (fun _ => by (try dsimp only); exact H.1) ?_
                        clear hK K
                        (try simp only [Act.put, List.setIfInBounds_toArray, List.set_cons_zero, List.set_cons_succ])
                        clear hHeld u
                        obtain ⟨u, hu⟩ : ∃ u, u' = u := ⟨_, rfl⟩
                        rw [hu] at H ⊢
                        clear hu u'
                        have hHeld := H.1
                        refine late_ready (rs := [11]) (by kernel_rfl) (by simp) ?_; refine AllLate.cons (o := _) rfl (fun K hK => ?_) AllLate.nil
                        go_simp
                        replace H : SepC w3 (u.alloc (.cells #[.int .i64 f, .int .i64 k.g, .int .i64 k.lev, .int .i64 k.role, .slice (some ⟨gm, 0, none⟩) 8 8] 104)) (blkT u.heap.size 104 (rpE.all [(f, k, (some ⟨gm, 0, none⟩, 8))]).toArray :: _) := H.alloc _ _
                        replace H := H.litOwn (c := 1) (by simp) (by simp)
                        refine hK.out _ _ (fun _ => by (try dsimp only); exact H.1) ?_
                        clear hK K
                        (try simp only [Act.put, List.setIfInBounds_toArray, List.set_cons_zero, List.set_cons_succ])
                        clear hHeld
                        generalize u.alloc (.cells #[.int .i64 f, .int .i64 k.g, .int .i64 k.lev, .int .i64 k.role, .slice (some ⟨gm, 0, none⟩) 8 8] 104) = u' at *
                        generalize u.heap.size = gg at *
                        clear u
                        obtain ⟨u, hu⟩ : ∃ u, u' = u := ⟨_, rfl⟩
                        rw [hu] at H ⊢
                        clear hu u'
                        have hHeld := H.1
                        refine late_ready (rs := [12]) (by kernel_rfl) (by simp) ?_; refine AllLate.cons (o := _) rfl (fun K hK => ?_) AllLate.nil
                        refine step_append_G (E := rpE) (some 70) rfl rfl (.tmp 64) (.tmp 69) 93 rfl 104 (.agg #[.int .i64 0, .int .i64 0, .int .i64 0, .int .i64 0, .slice none 0 0]) 56 Try.underlying93 Page14_info rfl (.slice A5 s.L.length c5) (rowsR s.L R) rfl (H.pick 1 rfl).own (some ⟨gg, 0, none⟩) 1 1 [(f, k, (some ⟨gm, 0, none⟩, 8))] rfl ((H.pick 0 rfl).own.src) rfl (by rw [hRl]; omega) (fun v' u' ho5 hc5 hb5 => ?_)
                        obtain ⟨A6, c6, rfl, hx1, hx2⟩ := ho5.form
                        clear hx1 hx2
                        have hl6 : (rowsR s.L R ++ [(f, k, ((some ⟨gm, 0, none⟩ : Option Addr), 8))]).length = s.L.length + 1 := by rw [List.length_append, hRl]; rfl
                        rw [hl6] at ho5 hb5 ⊢
                        replace H := (H.pick 1 rfl).app ho5 hc5 hb5
                        clear ho5 hc5 hb5 hl6
                        refine hK.out _ _ (fun _ => by (try dsimp only); exact H.1) ?_
                        clear hK K
                        (try simp only [Act.put, List.setIfInBounds_toArray, List.set_cons_zero, List.set_cons_succ])
                        clear hHeld u
                        have hqu := hst3.chg_ H.1 (by simp)
                        have c2 := hqu.cell 2; have f2 := hqu.frozen 2
                        simp only [List.getElem?_toArray, List.getElem?_cons_zero, List.getElem?_cons_succ] at c2
                        refine late_ready (rs := [13]) (by kernel_rfl) (by simp) ?_; refine AllLate.cons (o := _) rfl (fun K hK => ?_) AllLate.nil
                        go_simp
                        refine hK.out _ _ (fun _ => by (try dsimp only); exact H.1) ?_
                        clear hK K
                        (try simp only [Act.put, List.setIfInBounds_toArray, List.set_cons_zero, List.set_cons_succ])
                        refine late_ready (rs := [14]) (by kernel_rfl) (by simp) ?_; refine AllLate.cons (o := _) rfl (fun K hK => ?_) AllLate.nil
                        go_simp
                        refine hK.out _ _ (fun _ => by (try dsimp only); exact H.1) ?_
                        clear hK K
                        (try simp only [Act.put, List.setIfInBounds_toArray, List.set_cons_zero, List.set_cons_succ])
                        refine late_ready (rs := [15]) (by kernel_rfl) (by simp) ?_; refine AllLate.cons (o := _) rfl (fun K hK => ?_) AllLate.nil
                        go_simp
                        refine hK.out _ _ (fun e => absurd rfl e) ?_
                        clear hK K
                        (try simp only [Act.put, List.setIfInBounds_toArray, List.set_cons_zero, List.set_cons_succ])
                        refine late_done (by kernel_rfl) ?_ _
                        refine NoPanic.normal ?_
                        have hmore := (h3.new H.1).more (p := ⟨f, k, List.replicate 8 Slt.no⟩) (r := (some ⟨gm, 0, none⟩, 8)) (H.pick 0 rfl).own (H.pick 2 rfl).own
                        have hA6 : ∀ g ∈ lB A6, w.heap.size ≤ g := fun g hg => by
                          obtain ⟨S_, ⟨e_, _⟩, hS_⟩ := H.fst
                          have := hS_ g (by rw [e_]; cases A6 <;> exact hg)
                          have := y03.size; omega
                        have hgm : w.heap.size ≤ gm := by
                          obtain ⟨S_, ⟨e_, _⟩, hS_⟩ := (H.pick 2 rfl).fst
                          have := hS_ gm (by rw [e_]; simp [Value.ownBlock])
                          have := y03.size; omega
                        have hyv : Chg (rb :: q :: FS) w (u'.setCell ⟨q, 2, none⟩ (.slice A6 (s.L.length + 1) c6)) := ((y03.weak (fun i_ _ hi_ => by simp [hi_])).trans H.1 (by simp)).setCell (p := ⟨q, 2, none⟩) (by simp) _
                        clear hqu c2 f2 H h3 hst3 kb3 hRl
                        generalize u'.setCell ⟨q, 2, none⟩ (.slice A6 (s.L.length + 1) c6) = v0 at *
                        clear u'
                        go_wp2_with fail
                        go_loopw [10] (fun s10 wr => ∃ j : Nat, j ≤ 8 ∧ s10 = .int .i64 j ∧ RStX wr q rp rb fp n a m ⟨s.L ++ [⟨f, k, List.replicate 8 Slt.no⟩], s.fr.dropLast, K j⟩ A6 c6 (R ++ [(some ⟨gm, 0, none⟩, 8)]) FS ∧ Chg (rb :: q :: FS) w wr) (fun s10 _ => 8 - (intOf s10).toNat)
                        case atStart => exact ⟨0, by omega, rfl, hmore, hyv⟩
                        case round =>
                          obtain ⟨j, hj, rfl, hr, y⟩ := hrel
                          clear hmore hyv
                          by_cases hlt : j < 8
                          · have hjz : (j : Int) < 8 := by omega
                            have hset := RSet_at rp rb n (K j) f j 0 wr hr.hm
                            rw [← hKs] at hset
                            have c0 := hr.st.cell 0
                            simp only [List.getElem?_toArray, List.getElem?_cons_zero] at c0
                            go_wp2_with fail
                            refine hset.mono ?_; rintro e w9 ⟨rfl, y9, hm9⟩
                            have hr9 := hr.words y9 hm9
                            clear hset c0 hr
                            go_wp2_with fail
                            go_roundw
                            case rel => exact ⟨j + 1, by omega, by go_num, hr9, y.trans y9 (fun i_ _ hi_ => by simp only [List.mem_singleton] at hi_; subst hi_; simp)⟩
                            case measure => simp [intOf]; omega
                          · obtain rfl : j = 8 := by omega
                            have hjz : ¬ ((8 : Nat) : Int) < 8 := by omega
                            go_wp2_with fail
                            go_ret2
                            refine ⟨by (first | (rw [hmv.out, hmt.out]; rfl) | (rw [hmv.out]; rfl)), A6, c6, _, FS, by rw [hK8.out] at hr; exact hr, y.weak (fun i_ _ hi_ => by simp only [List.mem_cons, List.mem_append] at hi_ ⊢; rcases hi_ with h_ | h_ | h_ <;> simp [h_]), fun g_ hg_ => ?_, fun r_ hr_ => ?_⟩
                            · rw [List.mem_append] at hg_
                              rcases hg_ with h_ | h_
                              · exact .inr (hA6 g_ h_)
                              · exact .inl (by simp [h_])
                            · rw [List.mem_append] at hr_
                              rcases hr_ with h_ | h_
                              · exact .inl h_
                              · rw [List.mem_singleton] at h_; subst h_; exact .inr ⟨gm, rfl, hgm⟩
                      · go_simp
                        replace H : SepC w3 (u.alloc (.cells #[.int .i64 f, .int .i64 k.g, .int .i64 k.lev, .int .i64 k.role, .slice (some ⟨gm, 0, none⟩) 8 8] 104)) (blkT u.heap.size 104 (rpE.all [(f, k, (some ⟨gm, 0, none⟩, 8))]).toArray :: _) := H.alloc _ _
                        replace H := H.litOwn (c := 1) (by simp) (by simp)
                        refine hK.out _ _ (fun _ => by (try dsimp only); exact H.1) ?_
                        clear hK K
                        (try simp only [Act.put, List.setIfInBounds_toArray, List.set_cons_zero, List.set_cons_succ])
                        clear hHeld
                        generalize u.alloc (.cells #[.int .i64 f, .int .i64 k.g, .int .i64 k.lev, .int .i64 k.role, .slice (some ⟨gm, 0, none⟩) 8 8] 104) = u' at *
                        generalize u.heap.size = gg at *
                        clear u
                        obtain ⟨u, hu⟩ : ∃ u, u' = u := ⟨_, rfl⟩
                        rw [hu] at H ⊢
                        clear hu u'
                        have hHeld := H.1
                        refine late_ready (rs := [6]) (by kernel_rfl) (by simp) ?_; refine AllLate.cons (o := _) rfl (fun K hK => ?_) AllLate.nil
                        refine step_append_G (E := rpE) (some 64) rfl rfl (.tmp 59) (.tmp 63) 93 rfl 104 (.agg #[.int .i64 0, .int .i64 0, .int .i64 0, .int .i64 0, .slice none 0 0]) 56 Try.underlying93 Page14_info rfl (.slice (some ⟨ga, 0, none⟩) 0 0) [] rfl (H.pick 1 rfl).own LA s.L.length lc (rowsR s.L R) rfl ((h3.hl.new H.1).src) hRl (by simp; omega) (fun v' u' ho5 hc5 hb5 => ?_)
                        rw [List.nil_append] at ho5
                        obtain ⟨A5, c5, rfl, hx1, hx2⟩ := ho5.form
                        clear hx1 hx2
                        rw [hRl] at ho5 hb5 ⊢
                        replace H := (H.pick 1 rfl).app ho5 hc5 hb5
                        clear ho5 hc5 hb5
                        refine hK.out _ _ (fun _ => by (try dsimp only); exact H.1) ?_
                        clear hK K
                        (try simp only [Act.put, List.setIfInBounds_toArray, List.set_cons_zero, List.set_cons_succ])
                        clear hHeld u
                        obtain ⟨u, hu⟩ : ∃ u, u' = u := ⟨_, rfl⟩
                        rw [hu] at H ⊢
                        clear hu u'
                        have hHeld := H.1
                        refine late_ready (rs := [12]) (by kernel_rfl) (by simp) ?_; refine AllLate.cons (o := _) rfl (fun K hK => ?_) AllLate.nil
                        refine step_append_G (E := rpE) (some 70) rfl rfl (.tmp 64) (.tmp 69) 93 rfl 104 (.agg #[.int .i64 0, .int .i64 0, .int .i64 0, .int .i64 0, .slice none 0 0]) 56 Try.underlying93 Page14_info rfl (.slice A5 s.L.length c5) (rowsR s.L R) rfl (H.pick 0 rfl).own (some ⟨gg, 0, none⟩) 1 1 [(f, k, (some ⟨gm, 0, none⟩, 8))] rfl ((H.pick 1 rfl).own.src) rfl (by rw [hRl]; omega) (fun v' u' ho5 hc5 hb5 => ?_)
                        obtain ⟨A6, c6, rfl, hx1, hx2⟩ := ho5.form
                        clear hx1 hx2
                        have hl6 : (rowsR s.L R ++ [(f, k, ((some ⟨gm, 0, none⟩ : Option Addr), 8))]).length = s.L.length + 1 := by rw [List.length_append, hRl]; rfl
                        rw [hl6] at ho5 hb5 ⊢
                        replace H := (H.pick 0 rfl).app ho5 hc5 hb5
                        clear ho5 hc5 hb5 hl6
                        refine hK.out _ _ (fun _ => by (try dsimp only); exact H.1) ?_
                        clear hK K
                        (try simp only [Act.put, List.setIfInBounds_toArray, List.set_cons_zero, List.set_cons_succ])
                        clear hHeld u
                        have hqu := hst3.chg_ H.1 (by simp)
                        have c2 := hqu.cell 2; have f2 := hqu.frozen 2
                        simp only [List.getElem?_toArray, List.getElem?_cons_zero, List.getElem?_cons_succ] at c2
                        refine late_ready (rs := [13]) (by kernel_rfl) (by simp) ?_; refine AllLate.cons (o := _) rfl (fun K hK => ?_) AllLate.nil
                        go_simp
                        refine hK.out _ _ (fun _ => by (try dsimp only); exact H.1) ?_
                        clear hK K
                        (try simp only [Act.put, List.setIfInBounds_toArray, List.set_cons_zero, List.set_cons_succ])
                        refine late_ready (rs := [14]) (by kernel_rfl) (by simp) ?_; refine AllLate.cons (o := _) rfl (fun K hK => ?_) AllLate.nil
                        go_simp
                        refine hK.out _ _ (fun _ => by (try dsimp only); exact H.1) ?_
                        clear hK K
                        (try simp only [Act.put, List.setIfInBounds_toArray, List.set_cons_zero, List.set_cons_succ])
                        refine late_ready (rs := [15]) (by kernel_rfl) (by simp) ?_; refine AllLate.cons (o := _) rfl (fun K hK => ?_) AllLate.nil
                        go_simp
                        refine hK.out _ _ (fun e => absurd rfl e) ?_
                        clear hK K
                        (try simp only [Act.put, List.setIfInBounds_toArray, List.set_cons_zero, List.set_cons_succ])
                        refine late_done (by kernel_rfl) ?_ _
                        refine NoPanic.normal ?_
                        have hmore := (h3.new H.1).more (p := ⟨f, k, List.replicate 8 Slt.no⟩) (r := (some ⟨gm, 0, none⟩, 8)) (H.pick 0 rfl).own (H.pick 2 rfl).own
                        have hA6 : ∀ g ∈ lB A6, w.heap.size ≤ g := fun g hg => by
                          obtain ⟨S_, ⟨e_, _⟩, hS_⟩ := H.fst
                          have := hS_ g (by rw [e_]; cases A6 <;> exact hg)
                          have := y03.size; omega
                        have hgm : w.heap.size ≤ gm := by
                          obtain ⟨S_, ⟨e_, _⟩, hS_⟩ := (H.pick 2 rfl).fst
                          have := hS_ gm (by rw [e_]; simp [Value.ownBlock])
                          have := y03.size; omega
                        have hyv : Chg (rb :: q :: FS) w (u'.setCell ⟨q, 2, none⟩ (.slice A6 (s.L.length + 1) c6)) := ((y03.weak (fun i_ _ hi_ => by simp [hi_])).trans H.1 (by simp)).setCell (p := ⟨q, 2, none⟩) (by simp) _
                        clear hqu c2 f2 H h3 hst3 kb3 hRl
                        generalize u'.setCell ⟨q, 2, none⟩ (.slice A6 (s.L.length + 1) c6) = v0 at *
                        clear u'
                        go_wp2_with fail
                        go_loopw [10] (fun s10 wr => ∃ j : Nat, j ≤ 8 ∧ s10 = .int .i64 j ∧ RStX wr q rp rb fp n a m ⟨s.L ++ [⟨f, k, List.replicate 8 Slt.no⟩], s.fr.dropLast, K j⟩ A6 c6 (R ++ [(some ⟨gm, 0, none⟩, 8)]) FS ∧ Chg (rb :: q :: FS) w wr) (fun s10 _ => 8 - (intOf s10).toNat)
                        case atStart => exact ⟨0, by omega, rfl, hmore, hyv⟩
                        case round =>
                          obtain ⟨j, hj, rfl, hr, y⟩ := hrel
                          clear hmore hyv
                          by_cases hlt : j < 8
                          · have hjz : (j : Int) < 8 := by omega
                            have hset := RSet_at rp rb n (K j) f j 0 wr hr.hm
                            rw [← hKs] at hset
                            have c0 := hr.st.cell 0
                            simp only [List.getElem?_toArray, List.getElem?_cons_zero] at c0
                            go_wp2_with fail
                            refine hset.mono ?_; rintro e w9 ⟨rfl, y9, hm9⟩
                            have hr9 := hr.words y9 hm9
                            clear hset c0 hr
                            go_wp2_with fail
                            go_roundw
                            case rel => exact ⟨j + 1, by omega, by go_num, hr9, y.trans y9 (fun i_ _ hi_ => by simp only [List.mem_singleton] at hi_; subst hi_; simp)⟩
                            case measure => simp [intOf]; omega
                          · obtain rfl : j = 8 := by omega
                            have hjz : ¬ ((8 : Nat) : Int) < 8 := by omega
                            go_wp2_with fail
                            go_ret2
                            refine ⟨by (first | (rw [hmv.out, hmt.out]; rfl) | (rw [hmv.out]; rfl)), A6, c6, _, FS, by rw [hK8.out] at hr; exact hr, y.weak (fun i_ _ hi_ => by simp only [List.mem_cons, List.mem_append] at hi_ ⊢; rcases hi_ with h_ | h_ | h_ <;> simp [h_]), fun g_ hg_ => ?_, fun r_ hr_ => ?_⟩
                            · rw [List.mem_append] at hg_
                              rcases hg_ with h_ | h_
                              · exact .inr (hA6 g_ h_)
                              · exact .inl (by simp [h_])
                            · rw [List.mem_append] at hr_
                              rcases hr_ with h_ | h_
                              · exact .inl h_
                              · rw [List.mem_singleton] at h_; subst h_; exact .inr ⟨gm, rfl, hgm⟩
                    · go_simp
                      replace H : SepC w3 (u.alloc (.cells #[.int .i64 f, .int .i64 k.g, .int .i64 k.lev, .int .i64 k.role, .slice (some ⟨gm, 0, none⟩) 8 8] 104)) (blkT u.heap.size 104 (rpE.all [(f, k, (some ⟨gm, 0, none⟩, 8))]).toArray :: _) := H.alloc _ _
                      replace H := H.litOwn (c := 1) (by simp) (by simp)
                      refine hK.out _ _ (fun _ => by (try dsimp only); exact H.1) ?_
                      clear hK K
                      (try simp only [Act.put, List.setIfInBounds_toArray, List.set_cons_zero, List.set_cons_succ])
                      clear hHeld
                      generalize u.alloc (.cells #[.int .i64 f, .int .i64 k.g, .int .i64 k.lev, .int .i64 k.role, .slice (some ⟨gm, 0, none⟩) 8 8] 104) = u' at *
                      generalize u.heap.size = gg at *
                      clear u
                      obtain ⟨u, hu⟩ : ∃ u, u' = u := ⟨_, rfl⟩
                      rw [hu] at H ⊢
                      clear hu u'
                      have hHeld := H.1
                      refine late_ready (rs := [1]) (by kernel_rfl) (by simp) ?_; refine AllLate.cons (o := _) rfl (fun K hK => ?_) AllLate.nil
                      go_simp
                      replace H : SepC w3 (u.alloc (.cells #[] 104)) (blkT u.heap.size 104 (rpE.all []).toArray :: _) := H.alloc _ _
                      replace H := H.litOwn (c := 0) (by simp) (by simp)
                      refine hK.out _ _ (fun _ => by (try dsimp only); exact H.1) ?_
                      clear hK K
                      (try simp only [Act.put, List.setIfInBounds_toArray, List.set_cons_zero, List.set_cons_succ])
                      clear hHeld
                      generalize u.alloc (.cells #[] 104) = u' at *
                      generalize u.heap.size = ga at *
                      clear u
                      obtain ⟨u, hu⟩ : ∃ u, u' = u := ⟨_, rfl⟩
                      rw [hu] at H ⊢
                      clear hu u'
                      have hHeld := H.1
                      refine late_ready (rs := [6]) (by kernel_rfl) (by simp) ?_; refine AllLate.cons (o := _) rfl (fun K hK => ?_) AllLate.nil
                      refine step_append_G (E := rpE) (some 64) rfl rfl (.tmp 59) (.tmp 63) 93 rfl 104 (.agg #[.int .i64 0, .int .i64 0, .int .i64 0, .int .i64 0, .slice none 0 0]) 56 Try.underlying93 Page14_info rfl (.slice (some ⟨ga, 0, none⟩) 0 0) [] rfl (H.pick 0 rfl).own LA s.L.length lc (rowsR s.L R) rfl ((h3.hl.new H.1).src) hRl (by simp; omega) (fun v' u' ho5 hc5 hb5 => ?_)
                      rw [List.nil_append] at ho5
                      obtain ⟨A5, c5, rfl, hx1, hx2⟩ := ho5.form
                      clear hx1 hx2
                      rw [hRl] at ho5 hb5 ⊢
                      replace H := (H.pick 0 rfl).app ho5 hc5 hb5
                      clear ho5 hc5 hb5
                      refine hK.out _ _ (fun _ => by (try dsimp only); exact H.1) ?_
                      clear hK K
                      (try simp only [Act.put, List.setIfInBounds_toArray, List.set_cons_zero, List.set_cons_succ])
                      clear hHeld u
                      obtain ⟨u, hu⟩ : ∃ u, u' = u := ⟨_, rfl⟩
                      rw [hu] at H ⊢
                      clear hu u'
                      have hHeld := H.1
                      refine late_ready (rs := [12]) (by kernel_rfl) (by simp) ?_; refine AllLate.cons (o := _) rfl (fun K hK => ?_) AllLate.nil
                      refine step_append_G (E := rpE) (some 70) rfl rfl (.tmp 64) (.tmp 69) 93 rfl 104 (.agg #[.int .i64 0, .int .i64 0, .int .i64 0, .int .i64 0, .slice none 0 0]) 56 Try.underlying93 Page14_info rfl (.slice A5 s.L.length c5) (rowsR s.L R) rfl (H.pick 0 rfl).own (some ⟨gg, 0, none⟩) 1 1 [(f, k, (some ⟨gm, 0, none⟩, 8))] rfl ((H.pick 1 rfl).own.src) rfl (by rw [hRl]; omega) (fun v' u' ho5 hc5 hb5 => ?_)
                      obtain ⟨A6, c6, rfl, hx1, hx2⟩ := ho5.form
                      clear hx1 hx2
                      have hl6 : (rowsR s.L R ++ [(f, k, ((some ⟨gm, 0, none⟩ : Option Addr), 8))]).length = s.L.length + 1 := by rw [List.length_append, hRl]; rfl
                      rw [hl6] at ho5 hb5 ⊢
                      replace H := (H.pick 0 rfl).app ho5 hc5 hb5
                      clear ho5 hc5 hb5 hl6
                      refine hK.out _ _ (fun _ => by (try dsimp only); exact H.1) ?_
                      clear hK K
                      (try simp only [Act.put, List.setIfInBounds_toArray, List.set_cons_zero, List.set_cons_succ])
                      clear hHeld u
                      have hqu := hst3.chg_ H.1 (by simp)
                      have c2 := hqu.cell 2; have f2 := hqu.frozen 2
                      simp only [List.getElem?_toArray, List.getElem?_cons_zero, List.getElem?_cons_succ] at c2
                      refine late_ready (rs := [13]) (by kernel_rfl) (by simp) ?_; refine AllLate.cons (o := _) rfl (fun K hK => ?_) AllLate.nil
                      go_simp
                      refine hK.out _ _ (fun _ => by (try dsimp only); exact H.1) ?_
                      clear hK K
                      (try simp only [Act.put, List.setIfInBounds_toArray, List.set_cons_zero, List.set_cons_succ])
                      refine late_ready (rs := [14]) (by kernel_rfl) (by simp) ?_; refine AllLate.cons (o := _) rfl (fun K hK => ?_) AllLate.nil
                      go_simp
                      refine hK.out _ _ (fun _ => by (try dsimp only); exact H.1) ?_
                      clear hK K
                      (try simp only [Act.put, List.setIfInBounds_toArray, List.set_cons_zero, List.set_cons_succ])
                      refine late_ready (rs := [15]) (by kernel_rfl) (by simp) ?_; refine AllLate.cons (o := _) rfl (fun K hK => ?_) AllLate.nil
                      go_simp
                      refine hK.out _ _ (fun e => absurd rfl e) ?_
                      clear hK K
                      (try simp only [Act.put, List.setIfInBounds_toArray, List.set_cons_zero, List.set_cons_succ])
                      refine late_done (by kernel_rfl) ?_ _
                      refine NoPanic.normal ?_
                      have hmore := (h3.new H.1).more (p := ⟨f, k, List.replicate 8 Slt.no⟩) (r := (some ⟨gm, 0, none⟩, 8)) (H.pick 0 rfl).own (H.pick 2 rfl).own
                      have hA6 : ∀ g ∈ lB A6, w.heap.size ≤ g := fun g hg => by
                        obtain ⟨S_, ⟨e_, _⟩, hS_⟩ := H.fst
                        have := hS_ g (by rw [e_]; cases A6 <;> exact hg)
                        have := y03.size; omega
                      have hgm : w.heap.size ≤ gm := by
                        obtain ⟨S_, ⟨e_, _⟩, hS_⟩ := (H.pick 2 rfl).fst
                        have := hS_ gm (by rw [e_]; simp [Value.ownBlock])
                        have := y03.size; omega
                      have hyv : Chg (rb :: q :: FS) w (u'.setCell ⟨q, 2, none⟩ (.slice A6 (s.L.length + 1) c6)) := ((y03.weak (fun i_ _ hi_ => by simp [hi_])).trans H.1 (by simp)).setCell (p := ⟨q, 2, none⟩) (by simp) _
                      clear hqu c2 f2 H h3 hst3 kb3 hRl
                      generalize u'.setCell ⟨q, 2, none⟩ (.slice A6 (s.L.length + 1) c6) = v0 at *
                      clear u'
                      go_wp2_with fail
                      go_loopw [10] (fun s10 wr => ∃ j : Nat, j ≤ 8 ∧ s10 = .int .i64 j ∧ RStX wr q rp rb fp n a m ⟨s.L ++ [⟨f, k, List.replicate 8 Slt.no⟩], s.fr.dropLast, K j⟩ A6 c6 (R ++ [(some ⟨gm, 0, none⟩, 8)]) FS ∧ Chg (rb :: q :: FS) w wr) (fun s10 _ => 8 - (intOf s10).toNat)
                      case atStart => exact ⟨0, by omega, rfl, hmore, hyv⟩
                      case round =>
                        obtain ⟨j, hj, rfl, hr, y⟩ := hrel
                        clear hmore hyv
                        by_cases hlt : j < 8
                        · have hjz : (j : Int) < 8 := by omega
                          have hset := RSet_at rp rb n (K j) f j 0 wr hr.hm
                          rw [← hKs] at hset
                          have c0 := hr.st.cell 0
                          simp only [List.getElem?_toArray, List.getElem?_cons_zero] at c0
                          go_wp2_with fail
                          refine hset.mono ?_; rintro e w9 ⟨rfl, y9, hm9⟩
                          have hr9 := hr.words y9 hm9
                          clear hset c0 hr
                          go_wp2_with fail
                          go_roundw
                          case rel => exact ⟨j + 1, by omega, by go_num, hr9, y.trans y9 (fun i_ _ hi_ => by simp only [List.mem_singleton] at hi_; subst hi_; simp)⟩
                          case measure => simp [intOf]; omega
                        · obtain rfl : j = 8 := by omega
                          have hjz : ¬ ((8 : Nat) : Int) < 8 := by omega
                          go_wp2_with fail
                          go_ret2
                          refine ⟨by (first | (rw [hmv.out, hmt.out]; rfl) | (rw [hmv.out]; rfl)), A6, c6, _, FS, by rw [hK8.out] at hr; exact hr, y.weak (fun i_ _ hi_ => by simp only [List.mem_cons, List.mem_append] at hi_ ⊢; rcases hi_ with h_ | h_ | h_ <;> simp [h_]), fun g_ hg_ => ?_, fun r_ hr_ => ?_⟩
                          · rw [List.mem_append] at hg_
                            rcases hg_ with h_ | h_
                            · exact .inr (hA6 g_ h_)
                            · exact .inl (by simp [h_])
                          · rw [List.mem_append] at hr_
                            rcases hr_ with h_ | h_
                            · exact .inl h_
                            · rw [List.mem_singleton] at h_; subst h_; exact .inr ⟨gm, rfl, hgm⟩
                · have htv : takeV s.fr = 0 := by unfold takeV; rw [List.isEmpty_iff.1 hem]; rfl
                  have htb : takeB s.fr = false := by unfold takeB; rw [hem]; rfl
                  rw [htv, htb] at hlast
                  have hmB' : makeB s k = false := by rw [hmB, hem]; rfl
                  obtain ⟨e1, e2⟩ := hno hmB'
                  rw [e1, e2, hmB']
                  have hsn : s.fr.dropLast = s.fr := by rw [List.isEmpty_iff.1 hem]; rfl
                  rw [hsn] at hlast
                  clear hno hmB hmB' e1 e2 hem htv htb hsn
                  go_enter Try.func50, Try.ntmps50
                  go_wp2_with fail
                  refine (hfd _ y0).mono ?_; rintro e w2 ⟨rfl, y2⟩
                  have kb2 := kb0.chg_ y2 (by simp)
                  have z2 := y0.trans y2 (by simp)
                  clear hfd x0 x1 x2
                  obtain ⟨kb, hkb⟩ : ∃ kb, w.heap.size = kb := ⟨_, rfl⟩
                  rw [hkb] at kb2 hkl ⊢
                  have hkb2 := Nat.lt_of_lt_of_le hkl y2.size
                  clear y2 kb0 hkl
                  clear y0
                  replace hkb := Lib.hid hkb
                  have x0 := kb2.cell 0; have x1 := kb2.cell 1; have x2 := kb2.cell 2
                  simp only [List.getElem?_toArray, List.getElem?_cons_zero, List.getElem?_cons_succ] at x0 x1 x2
                  have q1 := hf1 _ z2
                  go_wp2_with fail
                  refine (hlast _ z2).mono ?_; rintro e w3 ⟨rfl, y3, hf3⟩
                  have h3 := (h.new z2).frees y3 hf3
                  go_wp2_with fail
                  go_ret2
                  exact ⟨rfl, LA, lc, R, FS, h3, (z2.weak (by simp)).trans (y3.weak (T := rb :: q :: (lB LA ++ FS)) (fun i _ hi => by simp [hi])) (fun _ _ h => h), fun _ h => .inl h, RNew.refl _ _⟩
              · have bc6 : (k.lev != 1) = false := by simp; simp at c6; omega
                clear c1 c2 c3 c4 c5
                cases hem : s.fr.isEmpty
                · have htb : takeB s.fr = true := by unfold takeB; rw [hem]; rfl
                  rw [htb] at hlast
                  go_enter Try.func50, Try.ntmps50
                  go_wp2_with fail
                  refine (hfd _ y0).mono ?_; rintro e w2 ⟨rfl, y2⟩
                  have kb2 := kb0.chg_ y2 (by simp)
                  have z2 := y0.trans y2 (by simp)
                  clear hfd x0 x1 x2
                  obtain ⟨kb, hkb⟩ : ∃ kb, w.heap.size = kb := ⟨_, rfl⟩
                  rw [hkb] at kb2 hkl ⊢
                  have hkb2 := Nat.lt_of_lt_of_le hkl y2.size
                  clear y2 kb0 hkl
                  clear y0
                  replace hkb := Lib.hid hkb
                  have x0 := kb2.cell 0; have x1 := kb2.cell 1; have x2 := kb2.cell 2
                  simp only [List.getElem?_toArray, List.getElem?_cons_zero, List.getElem?_cons_succ] at x0 x1 x2
                  have q1 := hf1 _ z2
                  go_wp2_with fail
                  refine (hlast _ z2).mono ?_; rintro e w3 ⟨rfl, y3, hf3⟩
                  have y03 : Chg FS w w3 := (z2.weak (by simp)).trans y3 (fun _ _ h => h)
                  have hFS := h.hf.lt
                  have kb3 := kb2.chg_ y3 (fun hm => by have := hFS _ hm; have := hkb.out; omega)
                  have h3 := (h.new z2).frees y3 hf3
                  have hmB' : makeB s k = true := by rw [hmB, hem]; rfl
                  (try rw [hmB'])
                  have hme := make_empty ok hmB'
                  have hmt := Lib.hid hmB'
                  have hms : makeS n s k = ⟨s.L ++ [⟨s.fr.getLastD 0, k, List.replicate 8 Slt.no⟩], s.fr.dropLast, fillW n s.W (s.fr.getLastD 0) (zeros 8)⟩ := by unfold makeS; rw [if_pos hmB']
                  have hmv : makeV s k = s.fr.getLastD 0 := by unfold makeV; rw [if_pos hmB']
                  obtain ⟨f, hf⟩ : ∃ f, s.fr.getLastD 0 = f := ⟨_, rfl⟩
                  rw [show takeV s.fr = s.fr.getLastD 0 from rfl, hf]
                  rw [hf] at hme hms hmv
                  obtain ⟨K, hK0, hKs, hK8⟩ : ∃ K : Nat → List Int, K 0 = s.W ∧ (∀ j : Nat, K (j + 1) = setW n (K j) f j 0) ∧ (⟨s.L ++ [⟨f, k, List.replicate 8 Slt.no⟩], s.fr.dropLast, K 8⟩ : Sr) = makeS n s k := by
                    refine ⟨fun j => (emptyS n ⟨s.L ++ [⟨f, k, List.replicate 8 Slt.no⟩], s.fr.dropLast, s.W⟩ f j).W, rfl, fun _ => rfl, ?_⟩
                    show (⟨_, _, (emptyS n _ f 8).W⟩ : Sr) = _
                    rw [hme, hms]
                  have h3 : RStX w3 q rp rb fp n a m ⟨s.L, s.fr.dropLast, K 0⟩ LA lc R FS := by rw [hK0]; exact h3
                  replace hK8 := Lib.hid hK8; replace hmv := Lib.hid hmv
                  have hst3 := h3.st
                  have hRl : (rowsR s.L R).length = s.L.length := by unfold rowsR; rw [List.length_zipWith, h.len]; omega
                  have hNl := ok.le256
                  clear hf hme hms hK0 hmB hmB' htb hem hpo hno ok hlast hf1 hf3 y3 z2 kb2 hkb2 hkb x0 x1 x2 hFS hr
                  go_upto_region 7 with fail
                  refine wp_region_noPanic ?_
                  refine late_region (S := (fun w' => Chg [] w3 w')) (Z := 15) (by kernel_rfl) ((Chg.refl [] w3).drew) (fun hHeld => ?_)
                  have H : SepC w3 w3.drew [] := (SepC.nil w3).new (Chg.refl [] w3).drew
                  have hmk := mk_slots
                  clear hHeld
                  generalize w3.drew = u at *
                  have hHeld := H.1
                  (refine late_on 0 (some 58) (v := ?_) rfl rfl (by kernel_rfl) (by kernel_rfl) (by kernel_rfl) (by kernel_rfl) (fun _ _ _ h => h) (by rfl) (by assumption) ?_ ?_; rotate_left; · (intro w hSw; go_simp; (try with_reducible rfl)))
                  (try simp only [Act.put, List.setIfInBounds_toArray, List.set_cons_zero, List.set_cons_succ])
                  (refine late_on 2 (some 60) (v := ?_) rfl rfl (by kernel_rfl) (by kernel_rfl) (by kernel_rfl) (by kernel_rfl) (fun _ _ _ h => h) (by rfl) (by assumption) ?_ ?_; rotate_left; · (intro w hSw; go_simp; (try with_reducible rfl)))
                  (try simp only [Act.put, List.setIfInBounds_toArray, List.set_cons_zero, List.set_cons_succ])
                  (refine late_on 3 (some 61) (v := ?_) rfl rfl (by kernel_rfl) (by kernel_rfl) (by kernel_rfl) (by kernel_rfl) (fun _ _ _ h => h) (by rfl) (by assumption) ?_ ?_; rotate_left; · (intro w hSw; go_simp; (try with_reducible rfl)))
                  (try simp only [Act.put, List.setIfInBounds_toArray, List.set_cons_zero, List.set_cons_succ])
                  (refine late_on 4 (some 62) (v := ?_) rfl rfl (by kernel_rfl) (by kernel_rfl) (by kernel_rfl) (by kernel_rfl) (fun _ _ _ h => h) (by rfl) (by assumption) ?_ ?_; rotate_left; · (intro w hSw; go_simp; (try with_reducible rfl)))
                  (try simp only [Act.put, List.setIfInBounds_toArray, List.set_cons_zero, List.set_cons_succ])
                  (refine late_on 5 (some 63) (v := ?_) rfl rfl (by kernel_rfl) (by kernel_rfl) (by kernel_rfl) (by kernel_rfl) (fun _ _ _ h => h) (by rfl) (by assumption) ?_ ?_; rotate_left; · (intro w hSw; (try dsimp only at hSw); have b_ := (hst3.chg_ hSw (by simp)).cell 2; simp only [List.getElem?_toArray, List.getElem?_cons_zero, List.getElem?_cons_succ] at b_; go_simp; (try with_reducible rfl)))
                  (try simp only [Act.put, List.setIfInBounds_toArray, List.set_cons_zero, List.set_cons_succ])
                  (refine late_on 7 (some 65) (v := ?_) rfl rfl (by kernel_rfl) (by kernel_rfl) (by kernel_rfl) (by kernel_rfl) (fun _ _ _ h => h) (by rfl) (by assumption) ?_ ?_; rotate_left; · (intro w hSw; go_simp; (try with_reducible rfl)))
                  (try simp only [Act.put, List.setIfInBounds_toArray, List.set_cons_zero, List.set_cons_succ])
                  (refine late_on 8 (some 66) (v := ?_) rfl rfl (by kernel_rfl) (by kernel_rfl) (by kernel_rfl) (by kernel_rfl) (fun _ _ _ h => h) (by rfl) (by assumption) ?_ ?_; rotate_left; · (intro w hSw; (try dsimp only at hSw); have b_ := kb3.chg_ hSw (by simp); have d0 := b_.cell 0; have d1 := b_.cell 1; have d2 := b_.cell 2; simp only [List.getElem?_toArray, List.getElem?_cons_zero, List.getElem?_cons_succ] at d0 d1 d2; go_simp; (try with_reducible rfl)))
                  (try simp only [Act.put, List.setIfInBounds_toArray, List.set_cons_zero, List.set_cons_succ])
                  refine late_ready (rs := [1, 9]) (by kernel_rfl) (by simp) ?_; refine AllLate.cons (o := _) rfl (fun K hK => ?_) (AllLate.cons (o := _) rfl (fun K hK => ?_) AllLate.nil)
                  · go_simp
                    replace H : SepC w3 (u.alloc (.cells #[] 104)) (blkT u.heap.size 104 (rpE.all []).toArray :: _) := H.alloc _ _
                    replace H := H.litOwn (c := 0) (by simp) (by simp)
                    refine hK.out _ _ (fun _ => by (try dsimp only); exact H.1) ?_
                    clear hK K
                    (try simp only [Act.put, List.setIfInBounds_toArray, List.set_cons_zero, List.set_cons_succ])
                    clear hHeld
                    generalize u.alloc (.cells #[] 104) = u' at *
                    generalize u.heap.size = ga at *
                    clear u
                    obtain ⟨u, hu⟩ : ∃ u, u' = u := ⟨_, rfl⟩
                    rw [hu] at H ⊢
                    clear hu u'
                    have hHeld := H.1
                    refine late_ready (rs := [6, 9]) (by kernel_rfl) (by simp) ?_; refine AllLate.cons (o := _) rfl (fun K hK => ?_) (AllLate.cons (o := _) rfl (fun K hK => ?_) AllLate.nil)
                    · refine step_append_G (E := rpE) (some 64) rfl rfl (.tmp 59) (.tmp 63) 93 rfl 104 (.agg #[.int .i64 0, .int .i64 0, .int .i64 0, .int .i64 0, .slice none 0 0]) 56 Try.underlying93 Page14_info rfl (.slice (some ⟨ga, 0, none⟩) 0 0) [] rfl (H.pick 0 rfl).own LA s.L.length lc (rowsR s.L R) rfl ((h3.hl.new H.1).src) hRl (by simp; omega) (fun v' u' ho5 hc5 hb5 => ?_)
                      rw [List.nil_append] at ho5
                      obtain ⟨A5, c5, rfl, hx1, hx2⟩ := ho5.form
                      clear hx1 hx2
                      rw [hRl] at ho5 hb5 ⊢
                      replace H := (H.pick 0 rfl).app ho5 hc5 hb5
                      clear ho5 hc5 hb5
                      refine hK.out _ _ (fun _ => by (try dsimp only); exact H.1) ?_
                      clear hK K
                      (try simp only [Act.put, List.setIfInBounds_toArray, List.set_cons_zero, List.set_cons_succ])
                      clear hHeld u
                      obtain ⟨u, hu⟩ : ∃ u, u' = u := ⟨_, rfl⟩
                      rw [hu] at H ⊢
                      clear hu u'
                      have hHeld := H.1
                      refine late_ready (rs := [9]) (by kernel_rfl) (by simp) ?_; refine AllLate.cons (o := _) rfl (fun K hK => ?_) AllLate.nil
                      go_simp
                      replace H : SepC w3 (u.alloc (.cells slots8.toArray 45)) (blkT u.heap.size 45 (sltE.all (List.replicate 8 Slt.no)).toArray :: _) := H.alloc _ _
                      replace H := H.litOwn (c := 8) (by simp) (by simp)
                      refine hK.out _ _ (fun _ => by (try dsimp only); exact H.1) ?_
                      clear hK K
                      (try simp only [Act.put, List.setIfInBounds_toArray, List.set_cons_zero, List.set_cons_succ])
                      clear hHeld
                      generalize u.alloc (.cells slots8.toArray 45) = u' at *
                      generalize u.heap.size = gm at *
                      clear u
                      obtain ⟨u, hu⟩ : ∃ u, u' = u := ⟨_, rfl⟩
                      rw [hu] at H ⊢
                      clear hu u'
                      have hHeld := H.1
                      (refine late_on 10 (some 68) (v := ?_) rfl rfl (by kernel_rfl) (by kernel_rfl) (by kernel_rfl) (by kernel_rfl) (fun _ _ _ h => h) (by rfl) (by assumption) ?_ ?_; rotate_left; · (intro w hSw; go_simp; (try with_reducible rfl)))
                      (try simp only [Act.put, List.setIfInBounds_toArray, List.set_cons_zero, List.set_cons_succ])
                      refine late_ready (rs := [11]) (by kernel_rfl) (by simp) ?_; refine AllLate.cons (o := _) rfl (fun K hK => ?_) AllLate.nil
                      go_simp
                      replace H : SepC w3 (u.alloc (.cells #[.int .i64 f, .int .i64 k.g, .int .i64 k.lev, .int .i64 k.role, .slice (some ⟨gm, 0, none⟩) 8 8] 104)) (blkT u.heap.size 104 (rpE.all [(f, k, (some ⟨gm, 0, none⟩, 8))]).toArray :: _) := H.alloc _ _
                      replace H := H.litOwn (c := 1) (by simp) (by simp)
                      refine hK.out _ _ (fun _ => by (try dsimp only); exact H.1) ?_
                      clear hK K
                      (try simp only [Act.put, List.setIfInBounds_toArray, List.set_cons_zero, List.set_cons_succ])
                      clear hHeld
                      generalize u.alloc (.cells #[.int .i64 f, .int .i64 k.g, .int .i64 k.lev, .int .i64 k.role, .slice (some ⟨gm, 0, none⟩) 8 8] 104) = u' at *
                      generalize u.heap.size = gg at *
                      clear u
                      obtain ⟨u, hu⟩ : ∃ u, u' = u := ⟨_, rfl⟩
                      rw [hu] at H ⊢
                      clear hu u'
                      have hHeld := H.1
                      refine late_ready (rs := [12]) (by kernel_rfl) (by simp) ?_; refine AllLate.cons (o := _) rfl (fun K hK => ?_) AllLate.nil
                      refine step_append_G (E := rpE) (some 70) rfl rfl (.tmp 64) (.tmp 69) 93 rfl 104 (.agg #[.int .i64 0, .int .i64 0, .int .i64 0, .int .i64 0, .slice none 0 0]) 56 Try.underlying93 Page14_info rfl (.slice A5 s.L.length c5) (rowsR s.L R) rfl (H.pick 2 rfl).own (some ⟨gg, 0, none⟩) 1 1 [(f, k, (some ⟨gm, 0, none⟩, 8))] rfl ((H.pick 0 rfl).own.src) rfl (by rw [hRl]; omega) (fun v' u' ho5 hc5 hb5 => ?_)
                      obtain ⟨A6, c6, rfl, hx1, hx2⟩ := ho5.form
                      clear hx1 hx2
                      have hl6 : (rowsR s.L R ++ [(f, k, ((some ⟨gm, 0, none⟩ : Option Addr), 8))]).length = s.L.length + 1 := by rw [List.length_append, hRl]; rfl
                      rw [hl6] at ho5 hb5 ⊢
                      replace H := (H.pick 2 rfl).app ho5 hc5 hb5
                      clear ho5 hc5 hb5 hl6
                      refine hK.out _ _ (fun _ => by (try dsimp only); exact H.1) ?_
                      clear hK K
                      (try simp only [Act.put, List.setIfInBounds_toArray, List.set_cons_zero, List.set_cons_succ])
                      clear hHeld u
                      have hqu := hst3.chg_ H.1 (by simp)
                      have c2 := hqu.cell 2; have f2 := hqu.frozen 2
                      simp only [List.getElem?_toArray, List.getElem?_cons_zero, List.getElem?_cons_succ] at c2
                      refine late_ready (rs := [13]) (by kernel_rfl) (by simp) ?_; refine AllLate.cons (o := _) rfl (fun K hK => ?_) AllLate.nil
                      go_simp
                      refine hK.out _ _ (fun _ => by (try dsimp only); exact H.1) ?_
                      clear hK K
                      (try simp only [Act.put, List.setIfInBounds_toArray, List.set_cons_zero, List.set_cons_succ])
                      refine late_ready (rs := [14]) (by kernel_rfl) (by simp) ?_; refine AllLate.cons (o := _) rfl (fun K hK => ?_) AllLate.nil
                      go_simp
                      refine hK.out _ _ (fun _ => by (try dsimp only); exact H.1) ?_
                      clear hK K
                      (try simp only [Act.put, List.setIfInBounds_toArray, List.set_cons_zero, List.set_cons_succ])
                      refine late_ready (rs := [15]) (by kernel_rfl) (by simp) ?_; refine AllLate.cons (o := _) rfl (fun K hK => ?_) AllLate.nil
                      go_simp
                      refine hK.out _ _ (fun e => absurd rfl e) ?_
                      clear hK K
                      (try simp only [Act.put, List.setIfInBounds_toArray, List.set_cons_zero, List.set_cons_succ])
                      refine late_done (by kernel_rfl) ?_ _
                      refine NoPanic.normal ?_
                      have hmore := (h3.new H.1).more (p := ⟨f, k, List.replicate 8 Slt.no⟩) (r := (some ⟨gm, 0, none⟩, 8)) (H.pick 0 rfl).own (H.pick 2 rfl).own
                      have hA6 : ∀ g ∈ lB A6, w.heap.size ≤ g := fun g hg => by
                        obtain ⟨S_, ⟨e_, _⟩, hS_⟩ := H.fst
                        have := hS_ g (by rw [e_]; cases A6 <;> exact hg)
                        have := y03.size; omega
                      have hgm : w.heap.size ≤ gm := by
                        obtain ⟨S_, ⟨e_, _⟩, hS_⟩ := (H.pick 2 rfl).fst
                        have := hS_ gm (by rw [e_]; simp [Value.ownBlock])
                        have := y03.size; omega
                      have hyv : Chg (rb :: q :: FS) w (u'.setCell ⟨q, 2, none⟩ (.slice A6 (s.L.length + 1) c6)) := ((y03.weak (fun i_ _ hi_ => by simp [hi_])).trans H.1 (by simp)).setCell (p := ⟨q, 2, none⟩) (by simp) _
                      clear hqu c2 f2 H h3 hst3 kb3 hRl
                      generalize u'.setCell ⟨q, 2, none⟩ (.slice A6 (s.L.length + 1) c6) = v0 at *
                      clear u'
                      go_wp2_with fail
                      go_loopw [10] (fun s10 wr => ∃ j : Nat, j ≤ 8 ∧ s10 = .int .i64 j ∧ RStX wr q rp rb fp n a m ⟨s.L ++ [⟨f, k, List.replicate 8 Slt.no⟩], s.fr.dropLast, K j⟩ A6 c6 (R ++ [(some ⟨gm, 0, none⟩, 8)]) FS ∧ Chg (rb :: q :: FS) w wr) (fun s10 _ => 8 - (intOf s10).toNat)
                      case atStart => exact ⟨0, by omega, rfl, hmore, hyv⟩
                      case round =>
                        obtain ⟨j, hj, rfl, hr, y⟩ := hrel
                        clear hmore hyv
                        by_cases hlt : j < 8
                        · have hjz : (j : Int) < 8 := by omega
                          have hset := RSet_at rp rb n (K j) f j 0 wr hr.hm
                          rw [← hKs] at hset
                          have c0 := hr.st.cell 0
                          simp only [List.getElem?_toArray, List.getElem?_cons_zero] at c0
                          go_wp2_with fail
                          refine hset.mono ?_; rintro e w9 ⟨rfl, y9, hm9⟩
                          have hr9 := hr.words y9 hm9
                          clear hset c0 hr
                          go_wp2_with fail
                          go_roundw
                          case rel => exact ⟨j + 1, by omega, by go_num, hr9, y.trans y9 (fun i_ _ hi_ => by simp only [List.mem_singleton] at hi_; subst hi_; simp)⟩
                          case measure => simp [intOf]; omega
                        · obtain rfl : j = 8 := by omega
                          have hjz : ¬ ((8 : Nat) : Int) < 8 := by omega
                          go_wp2_with fail
                          go_ret2
                          refine ⟨by (first | (rw [hmv.out, hmt.out]; rfl) | (rw [hmv.out]; rfl)), A6, c6, _, FS, by rw [hK8.out] at hr; exact hr, y.weak (fun i_ _ hi_ => by simp only [List.mem_cons, List.mem_append] at hi_ ⊢; rcases hi_ with h_ | h_ | h_ <;> simp [h_]), fun g_ hg_ => ?_, fun r_ hr_ => ?_⟩
                          · rw [List.mem_append] at hg_
                            rcases hg_ with h_ | h_
                            · exact .inr (hA6 g_ h_)
                            · exact .inl (by simp [h_])
                          · rw [List.mem_append] at hr_
                            rcases hr_ with h_ | h_
                            · exact .inl h_
                            · rw [List.mem_singleton] at h_; subst h_; exact .inr ⟨gm, rfl, hgm⟩
                    · go_simp
                      replace H : SepC w3 (u.alloc (.cells slots8.toArray 45)) (blkT u.heap.size 45 (sltE.all (List.replicate 8 Slt.no)).toArray :: _) := H.alloc _ _
                      replace H := H.litOwn (c := 8) (by simp) (by simp)
                      refine hK.out _ _ (fun _ => by (try dsimp only); exact H.1) ?_
                      clear hK K
                      (try simp only [Act.put, List.setIfInBounds_toArray, List.set_cons_zero, List.set_cons_succ])
                      clear hHeld
                      generalize u.alloc (.cells slots8.toArray 45) = u' at *
                      generalize u.heap.size = gm at *
                      clear u
                      obtain ⟨u, hu⟩ : ∃ u, u' = u := ⟨_, rfl⟩
                      rw [hu] at H ⊢
                      clear hu u'
                      have hHeld := H.1
                      (refine late_on 10 (some 68) (v := ?_) rfl rfl (by kernel_rfl) (by kernel_rfl) (by kernel_rfl) (by kernel_rfl) (fun _ _ _ h => h) (by rfl) (by assumption) ?_ ?_; rotate_left; · (intro w hSw; go_simp; (try with_reducible rfl)))
                      (try simp only [Act.put, List.setIfInBounds_toArray, List.set_cons_zero, List.set_cons_succ])
                      refine late_ready (rs := [6, 11]) (by kernel_rfl) (by simp) ?_; refine AllLate.cons (o := _) rfl (fun K hK => ?_) (AllLate.cons (o := _) rfl (fun K hK => ?_) AllLate.nil)
                      · refine step_append_G (E := rpE) (some 64) rfl rfl (.tmp 59) (.tmp 63) 93 rfl 104 (.agg #[.int .i64 0, .int .i64 0, .int .i64 0, .int .i64 0, .slice none 0 0]) 56 Try.underlying93 Page14_info rfl (.slice (some ⟨ga, 0, none⟩) 0 0) [] rfl (H.pick 1 rfl).own LA s.L.length lc (rowsR s.L R) rfl ((h3.hl.new H.1).src) hRl (by simp; omega) (fun v' u' ho5 hc5 hb5 => ?_)
                        rw [List.nil_append] at ho5
                        obtain ⟨A5, c5, rfl, hx1, hx2⟩ := ho5.form
                        clear hx1 hx2
                        rw [hRl] at ho5 hb5 ⊢
                        replace H := (H.pick 1 rfl).app ho5 hc5 hb5
                        clear ho5 hc5 hb5
                        refine hK.out _ _ (fun _ => by (try dsimp only); exact H.1) ?_
                        clear hK K
                        (try simp only [Act.put, List.setIfInBounds_toArray, List.set_cons_zero, List.set_cons_succ])
                        clear hHeld u
                        obtain ⟨u, hu⟩ : ∃ u, u' = u := ⟨_, rfl⟩
                        rw [hu] at H ⊢
                        clear hu u'
                        have hHeld := H.1
                        refine late_ready (rs := [11]) (by kernel_rfl) (by simp) ?_; refine AllLate.cons (o := _) rfl (fun K hK => ?_) AllLate.nil
                        go_simp
                        replace H : SepC w3 (u.alloc (.cells #[.int .i64 f, .int .i64 k.g, .int .i64 k.lev, .int .i64 k.role, .slice (some ⟨gm, 0, none⟩) 8 8] 104)) (blkT u.heap.size 104 (rpE.all [(f, k, (some ⟨gm, 0, none⟩, 8))]).toArray :: _) := H.alloc _ _
                        replace H := H.litOwn (c := 1) (by simp) (by simp)
                        refine hK.out _ _ (fun _ => by (try dsimp only); exact H.1) ?_
                        clear hK K
                        (try simp only [Act.put, List.setIfInBounds_toArray, List.set_cons_zero, List.set_cons_succ])
                        clear hHeld
                        generalize u.alloc (.cells #[.int .i64 f, .int .i64 k.g, .int .i64 k.lev, .int .i64 k.role, .slice (some ⟨gm, 0, none⟩) 8 8] 104) = u' at *
                        generalize u.heap.size = gg at *
                        clear u
                        obtain ⟨u, hu⟩ : ∃ u, u' = u := ⟨_, rfl⟩
                        rw [hu] at H ⊢
                        clear hu u'
                        have hHeld := H.1
                        refine late_ready (rs := [12]) (by kernel_rfl) (by simp) ?_; refine AllLate.cons (o := _) rfl (fun K hK => ?_) AllLate.nil
                        refine step_append_G (E := rpE) (some 70) rfl rfl (.tmp 64) (.tmp 69) 93 rfl 104 (.agg #[.int .i64 0, .int .i64 0, .int .i64 0, .int .i64 0, .slice none 0 0]) 56 Try.underlying93 Page14_info rfl (.slice A5 s.L.length c5) (rowsR s.L R) rfl (H.pick 1 rfl).own (some ⟨gg, 0, none⟩) 1 1 [(f, k, (some ⟨gm, 0, none⟩, 8))] rfl ((H.pick 0 rfl).own.src) rfl (by rw [hRl]; omega) (fun v' u' ho5 hc5 hb5 => ?_)
                        obtain ⟨A6, c6, rfl, hx1, hx2⟩ := ho5.form
                        clear hx1 hx2
                        have hl6 : (rowsR s.L R ++ [(f, k, ((some ⟨gm, 0, none⟩ : Option Addr), 8))]).length = s.L.length + 1 := by rw [List.length_append, hRl]; rfl
                        rw [hl6] at ho5 hb5 ⊢
                        replace H := (H.pick 1 rfl).app ho5 hc5 hb5
                        clear ho5 hc5 hb5 hl6
                        refine hK.out _ _ (fun _ => by (try dsimp only); exact H.1) ?_
                        clear hK K
                        (try simp only [Act.put, List.setIfInBounds_toArray, List.set_cons_zero, List.set_cons_succ])
                        clear hHeld u
                        have hqu := hst3.chg_ H.1 (by simp)
                        have c2 := hqu.cell 2; have f2 := hqu.frozen 2
                        simp only [List.getElem?_toArray, List.getElem?_cons_zero, List.getElem?_cons_succ] at c2
                        refine late_ready (rs := [13]) (by kernel_rfl) (by simp) ?_; refine AllLate.cons (o := _) rfl (fun K hK => ?_) AllLate.nil
                        go_simp
                        refine hK.out _ _ (fun _ => by (try dsimp only); exact H.1) ?_
                        clear hK K
                        (try simp only [Act.put, List.setIfInBounds_toArray, List.set_cons_zero, List.set_cons_succ])
                        refine late_ready (rs := [14]) (by kernel_rfl) (by simp) ?_; refine AllLate.cons (o := _) rfl (fun K hK => ?_) AllLate.nil
                        go_simp
                        refine hK.out _ _ (fun _ => by (try dsimp only); exact H.1) ?_
                        clear hK K
                        (try simp only [Act.put, List.setIfInBounds_toArray, List.set_cons_zero, List.set_cons_succ])
                        refine late_ready (rs := [15]) (by kernel_rfl) (by simp) ?_; refine AllLate.cons (o := _) rfl (fun K hK => ?_) AllLate.nil
                        go_simp
                        refine hK.out _ _ (fun e => absurd rfl e) ?_
                        clear hK K
                        (try simp only [Act.put, List.setIfInBounds_toArray, List.set_cons_zero, List.set_cons_succ])
                        refine late_done (by kernel_rfl) ?_ _
                        refine NoPanic.normal ?_
                        have hmore := (h3.new H.1).more (p := ⟨f, k, List.replicate 8 Slt.no⟩) (r := (some ⟨gm, 0, none⟩, 8)) (H.pick 0 rfl).own (H.pick 2 rfl).own
                        have hA6 : ∀ g ∈ lB A6, w.heap.size ≤ g := fun g hg => by
                          obtain ⟨S_, ⟨e_, _⟩, hS_⟩ := H.fst
                          have := hS_ g (by rw [e_]; cases A6 <;> exact hg)
                          have := y03.size; omega
                        have hgm : w.heap.size ≤ gm := by
                          obtain ⟨S_, ⟨e_, _⟩, hS_⟩ := (H.pick 2 rfl).fst
                          have := hS_ gm (by rw [e_]; simp [Value.ownBlock])
                          have := y03.size; omega
                        have hyv : Chg (rb :: q :: FS) w (u'.setCell ⟨q, 2, none⟩ (.slice A6 (s.L.length + 1) c6)) := ((y03.weak (fun i_ _ hi_ => by simp [hi_])).trans H.1 (by simp)).setCell (p := ⟨q, 2, none⟩) (by simp) _
                        clear hqu c2 f2 H h3 hst3 kb3 hRl
                        generalize u'.setCell ⟨q, 2, none⟩ (.slice A6 (s.L.length + 1) c6) = v0 at *
                        clear u'
                        go_wp2_with fail
                        go_loopw [10] (fun s10 wr => ∃ j : Nat, j ≤ 8 ∧ s10 = .int .i64 j ∧ RStX wr q rp rb fp n a m ⟨s.L ++ [⟨f, k, List.replicate 8 Slt.no⟩], s.fr.dropLast, K j⟩ A6 c6 (R ++ [(some ⟨gm, 0, none⟩, 8)]) FS ∧ Chg (rb :: q :: FS) w wr) (fun s10 _ => 8 - (intOf s10).toNat)
                        case atStart => exact ⟨0, by omega, rfl, hmore, hyv⟩
                        case round =>
                          obtain ⟨j, hj, rfl, hr, y⟩ := hrel
                          clear hmore hyv
                          by_cases hlt : j < 8
                          · have hjz : (j : Int) < 8 := by omega
                            have hset := RSet_at rp rb n (K j) f j 0 wr hr.hm
                            rw [← hKs] at hset
                            have c0 := hr.st.cell 0
                            simp only [List.getElem?_toArray, List.getElem?_cons_zero] at c0
                            go_wp2_with fail
                            refine hset.mono ?_; rintro e w9 ⟨rfl, y9, hm9⟩
                            have hr9 := hr.words y9 hm9
                            clear hset c0 hr
                            go_wp2_with fail
                            go_roundw
                            case rel => exact ⟨j + 1, by omega, by go_num, hr9, y.trans y9 (fun i_ _ hi_ => by simp only [List.mem_singleton] at hi_; subst hi_; simp)⟩
                            case measure => simp [intOf]; omega
                          · obtain rfl : j = 8 := by omega
                            have hjz : ¬ ((8 : Nat) : Int) < 8 := by omega
                            go_wp2_with fail
                            go_ret2
                            refine ⟨by (first | (rw [hmv.out, hmt.out]; rfl) | (rw [hmv.out]; rfl)), A6, c6, _, FS, by rw [hK8.out] at hr; exact hr, y.weak (fun i_ _ hi_ => by simp only [List.mem_cons, List.mem_append] at hi_ ⊢; rcases hi_ with h_ | h_ | h_ <;> simp [h_]), fun g_ hg_ => ?_, fun r_ hr_ => ?_⟩
                            · rw [List.mem_append] at hg_
                              rcases hg_ with h_ | h_
                              · exact .inr (hA6 g_ h_)
                              · exact .inl (by simp [h_])
                            · rw [List.mem_append] at hr_
                              rcases hr_ with h_ | h_
                              · exact .inl h_
                              · rw [List.mem_singleton] at h_; subst h_; exact .inr ⟨gm, rfl, hgm⟩
                      · go_simp
                        replace H : SepC w3 (u.alloc (.cells #[.int .i64 f, .int .i64 k.g, .int .i64 k.lev, .int .i64 k.role, .slice (some ⟨gm, 0, none⟩) 8 8] 104)) (blkT u.heap.size 104 (rpE.all [(f, k, (some ⟨gm, 0, none⟩, 8))]).toArray :: _) := H.alloc _ _
                        replace H := H.litOwn (c := 1) (by simp) (by simp)
                        refine hK.out _ _ (fun _ => by (try dsimp only); exact H.1) ?_
                        clear hK K
                        (try simp only [Act.put, List.setIfInBounds_toArray, List.set_cons_zero, List.set_cons_succ])
                        clear hHeld
                        generalize u.alloc (.cells #[.int .i64 f, .int .i64 k.g, .int .i64 k.lev, .int .i64 k.role, .slice (some ⟨gm, 0, none⟩) 8 8] 104) = u' at *
                        generalize u.heap.size = gg at *
                        clear u
                        obtain ⟨u, hu⟩ : ∃ u, u' = u := ⟨_, rfl⟩
                        rw [hu] at H ⊢
                        clear hu u'
                        have hHeld := H.1
                        refine late_ready (rs := [6]) (by kernel_rfl) (by simp) ?_; refine AllLate.cons (o := _) rfl (fun K hK => ?_) AllLate.nil
                        refine step_append_G (E := rpE) (some 64) rfl rfl (.tmp 59) (.tmp 63) 93 rfl 104 (.agg #[.int .i64 0, .int .i64 0, .int .i64 0, .int .i64 0, .slice none 0 0]) 56 Try.underlying93 Page14_info rfl (.slice (some ⟨ga, 0, none⟩) 0 0) [] rfl (H.pick 2 rfl).own LA s.L.length lc (rowsR s.L R) rfl ((h3.hl.new H.1).src) hRl (by simp; omega) (fun v' u' ho5 hc5 hb5 => ?_)
                        rw [List.nil_append] at ho5
                        obtain ⟨A5, c5, rfl, hx1, hx2⟩ := ho5.form
                        clear hx1 hx2
                        rw [hRl] at ho5 hb5 ⊢
                        replace H := (H.pick 2 rfl).app ho5 hc5 hb5
                        clear ho5 hc5 hb5
                        refine hK.out _ _ (fun _ => by (try dsimp only); exact H.1) ?_
                        clear hK K
                        (try simp only [Act.put, List.setIfInBounds_toArray, List.set_cons_zero, List.set_cons_succ])
                        clear hHeld u
                        obtain ⟨u, hu⟩ : ∃ u, u' = u := ⟨_, rfl⟩
                        rw [hu] at H ⊢
                        clear hu u'
                        have hHeld := H.1
                        refine late_ready (rs := [12]) (by kernel_rfl) (by simp) ?_; refine AllLate.cons (o := _) rfl (fun K hK => ?_) AllLate.nil
                        refine step_append_G (E := rpE) (some 70) rfl rfl (.tmp 64) (.tmp 69) 93 rfl 104 (.agg #[.int .i64 0, .int .i64 0, .int .i64 0, .int .i64 0, .slice none 0 0]) 56 Try.underlying93 Page14_info rfl (.slice A5 s.L.length c5) (rowsR s.L R) rfl (H.pick 0 rfl).own (some ⟨gg, 0, none⟩) 1 1 [(f, k, (some ⟨gm, 0, none⟩, 8))] rfl ((H.pick 1 rfl).own.src) rfl (by rw [hRl]; omega) (fun v' u' ho5 hc5 hb5 => ?_)
                        obtain ⟨A6, c6, rfl, hx1, hx2⟩ := ho5.form
                        clear hx1 hx2
                        have hl6 : (rowsR s.L R ++ [(f, k, ((some ⟨gm, 0, none⟩ : Option Addr), 8))]).length = s.L.length + 1 := by rw [List.length_append, hRl]; rfl
                        rw [hl6] at ho5 hb5 ⊢
                        replace H := (H.pick 0 rfl).app ho5 hc5 hb5
                        clear ho5 hc5 hb5 hl6
                        refine hK.out _ _ (fun _ => by (try dsimp only); exact H.1) ?_
                        clear hK K
                        (try simp only [Act.put, List.setIfInBounds_toArray, List.set_cons_zero, List.set_cons_succ])
                        clear hHeld u
                        have hqu := hst3.chg_ H.1 (by simp)
                        have c2 := hqu.cell 2; have f2 := hqu.frozen 2
                        simp only [List.getElem?_toArray, List.getElem?_cons_zero, List.getElem?_cons_succ] at c2
                        refine late_ready (rs := [13]) (by kernel_rfl) (by simp) ?_; refine AllLate.cons (o := _) rfl (fun K hK => ?_) AllLate.nil
                        go_simp
                        refine hK.out _ _ (fun _ => by (try dsimp only); exact H.1) ?_
                        clear hK K
                        (try simp only [Act.put, List.setIfInBounds_toArray, List.set_cons_zero, List.set_cons_succ])
                        refine late_ready (rs := [14]) (by kernel_rfl) (by simp) ?_; refine AllLate.cons (o := _) rfl (fun K hK => ?_) AllLate.nil
                        go_simp
                        refine hK.out _ _ (fun _ => by (try dsimp only); exact H.1) ?_
                        clear hK K
                        (try simp only [Act.put, List.setIfInBounds_toArray, List.set_cons_zero, List.set_cons_succ])
                        refine late_ready (rs := [15]) (by kernel_rfl) (by simp) ?_; refine AllLate.cons (o := _) rfl (fun K hK => ?_) AllLate.nil
                        go_simp
                        refine hK.out _ _ (fun e => absurd rfl e) ?_
                        clear hK K
                        (try simp only [Act.put, List.setIfInBounds_toArray, List.set_cons_zero, List.set_cons_succ])
                        refine late_done (by kernel_rfl) ?_ _
                        refine NoPanic.normal ?_
                        have hmore := (h3.new H.1).more (p := ⟨f, k, List.replicate 8 Slt.no⟩) (r := (some ⟨gm, 0, none⟩, 8)) (H.pick 0 rfl).own (H.pick 2 rfl).own
                        have hA6 : ∀ g ∈ lB A6, w.heap.size ≤ g := fun g hg => by
                          obtain ⟨S_, ⟨e_, _⟩, hS_⟩ := H.fst
                          have := hS_ g (by rw [e_]; cases A6 <;> exact hg)
                          have := y03.size; omega
                        have hgm : w.heap.size ≤ gm := by
                          obtain ⟨S_, ⟨e_, _⟩, hS_⟩ := (H.pick 2 rfl).fst
                          have := hS_ gm (by rw [e_]; simp [Value.ownBlock])
                          have := y03.size; omega
                        have hyv : Chg (rb :: q :: FS) w (u'.setCell ⟨q, 2, none⟩ (.slice A6 (s.L.length + 1) c6)) := ((y03.weak (fun i_ _ hi_ => by simp [hi_])).trans H.1 (by simp)).setCell (p := ⟨q, 2, none⟩) (by simp) _
                        clear hqu c2 f2 H h3 hst3 kb3 hRl
                        generalize u'.setCell ⟨q, 2, none⟩ (.slice A6 (s.L.length + 1) c6) = v0 at *
                        clear u'
                        go_wp2_with fail
                        go_loopw [10] (fun s10 wr => ∃ j : Nat, j ≤ 8 ∧ s10 = .int .i64 j ∧ RStX wr q rp rb fp n a m ⟨s.L ++ [⟨f, k, List.replicate 8 Slt.no⟩], s.fr.dropLast, K j⟩ A6 c6 (R ++ [(some ⟨gm, 0, none⟩, 8)]) FS ∧ Chg (rb :: q :: FS) w wr) (fun s10 _ => 8 - (intOf s10).toNat)
                        case atStart => exact ⟨0, by omega, rfl, hmore, hyv⟩
                        case round =>
                          obtain ⟨j, hj, rfl, hr, y⟩ := hrel
                          clear hmore hyv
                          by_cases hlt : j < 8
                          · have hjz : (j : Int) < 8 := by omega
                            have hset := RSet_at rp rb n (K j) f j 0 wr hr.hm
                            rw [← hKs] at hset
                            have c0 := hr.st.cell 0
                            simp only [List.getElem?_toArray, List.getElem?_cons_zero] at c0
                            go_wp2_with fail
                            refine hset.mono ?_; rintro e w9 ⟨rfl, y9, hm9⟩
                            have hr9 := hr.words y9 hm9
                            clear hset c0 hr
                            go_wp2_with fail
                            go_roundw
                            case rel => exact ⟨j + 1, by omega, by go_num, hr9, y.trans y9 (fun i_ _ hi_ => by simp only [List.mem_singleton] at hi_; subst hi_; simp)⟩
                            case measure => simp [intOf]; omega
                          · obtain rfl : j = 8 := by omega
                            have hjz : ¬ ((8 : Nat) : Int) < 8 := by omega
                            go_wp2_with fail
                            go_ret2
                            refine ⟨by (first | (rw [hmv.out, hmt.out]; rfl) | (rw [hmv.out]; rfl)), A6, c6, _, FS, by rw [hK8.out] at hr; exact hr, y.weak (fun i_ _ hi_ => by simp only [List.mem_cons, List.mem_append] at hi_ ⊢; rcases hi_ with h_ | h_ | h_ <;> simp [h_]), fun g_ hg_ => ?_, fun r_ hr_ => ?_⟩
                            · rw [List.mem_append] at hg_
                              rcases hg_ with h_ | h_
                              · exact .inr (hA6 g_ h_)
                              · exact .inl (by simp [h_])
                            · rw [List.mem_append] at hr_
                              rcases hr_ with h_ | h_
                              · exact .inl h_
                              · rw [List.mem_singleton] at h_; subst h_; exact .inr ⟨gm, rfl, hgm⟩
                  · go_simp
                    replace H : SepC w3 (u.alloc (.cells slots8.toArray 45)) (blkT u.heap.size 45 (sltE.all (List.replicate 8 Slt.no)).toArray :: _) := H.alloc _ _
                    replace H := H.litOwn (c := 8) (by simp) (by simp)
                    refine hK.out _ _ (fun _ => by (try dsimp only); exact H.1) ?_
                    clear hK K
                    (try simp only [Act.put, List.setIfInBounds_toArray, List.set_cons_zero, List.set_cons_succ])
                    clear hHeld
                    generalize u.alloc (.cells slots8.toArray 45) = u' at *
                    generalize u.heap.size = gm at *
                    clear u
                    obtain ⟨u, hu⟩ : ∃ u, u' = u := ⟨_, rfl⟩
                    rw [hu] at H ⊢
                    clear hu u'
                    have hHeld := H.1
                    (refine late_on 10 (some 68) (v := ?_) rfl rfl (by kernel_rfl) (by kernel_rfl) (by kernel_rfl) (by kernel_rfl) (fun _ _ _ h => h) (by rfl) (by assumption) ?_ ?_; rotate_left; · (intro w hSw; go_simp; (try with_reducible rfl)))
                    (try simp only [Act.put, List.setIfInBounds_toArray, List.set_cons_zero, List.set_cons_succ])
                    refine late_ready (rs := [1, 11]) (by kernel_rfl) (by simp) ?_; refine AllLate.cons (o := _) rfl (fun K hK => ?_) (AllLate.cons (o := _) rfl (fun K hK => ?_) AllLate.nil)
                    · go_simp
                      replace H : SepC w3 (u.alloc (.cells #[] 104)) (blkT u.heap.size 104 (rpE.all []).toArray :: _) := H.alloc _ _
                      replace H := H.litOwn (c := 0) (by simp) (by simp)
                      refine hK.out _ _ (fun _ => by (try dsimp only); exact H.1) ?_
                      clear hK K
                      (try simp only [Act.put, List.setIfInBounds_toArray, List.set_cons_zero, List.set_cons_succ])
                      clear hHeld
                      generalize u.alloc (.cells #[] 104) = u' at *
                      generalize u.heap.size = ga at *
                      clear u
                      obtain ⟨u, hu⟩ : ∃ u, u' = u := ⟨_, rfl⟩
                      rw [hu] at H ⊢
                      clear hu u'
                      have hHeld := H.1
                      refine late_ready (rs := [6, 11]) (by kernel_rfl) (by simp) ?_; refine AllLate.cons (o := _) rfl (fun K hK => ?_) (AllLate.cons (o := _) rfl (fun K hK => ?_) AllLate.nil)
                      · refine step_append_G (E := rpE) (some 64) rfl rfl (.tmp 59) (.tmp 63) 93 rfl 104 (.agg #[.int .i64 0, .int .i64 0, .int .i64 0, .int .i64 0, .slice none 0 0]) 56 Try.underlying93 Page14_info rfl (.slice (some ⟨ga, 0, none⟩) 0 0) [] rfl (H.pick 0 rfl).own LA s.L.length lc (rowsR s.L R) rfl ((h3.hl.new H.1).src) hRl (by simp; omega) (fun v' u' ho5 hc5 hb5 => ?_)
                        rw [List.nil_append] at ho5
                        obtain ⟨A5, c5, rfl, hx1, hx2⟩ := ho5.form
                        clear hx1 hx2
                        rw [hRl] at ho5 hb5 ⊢
                        replace H := (H.pick 0 rfl).app ho5 hc5 hb5
                        clear ho5 hc5 hb5
                        refine hK.out _ _ (fun _ => by (try dsimp only); exact H.1) ?_
                        clear hK K
                        (try simp only [Act.put, List.setIfInBounds_toArray, List.set_cons_zero, List.set_cons_succ])
                        clear hHeld u
                        obtain ⟨u, hu⟩ : ∃ u, u' = u := ⟨_, rfl⟩
                        rw [hu] at H ⊢
                        clear hu u'
                        have hHeld := H.1
                        refine late_ready (rs := [11]) (by kernel_rfl) (by simp) ?_; refine AllLate.cons (o := _) rfl (fun K hK => ?_) AllLate.nil
                        go_simp
                        replace H : SepC w3 (u.alloc (.cells #[.int .i64 f, .int .i64 k.g, .int .i64 k.lev, .int .i64 k.role, .slice (some ⟨gm, 0, none⟩) 8 8] 104)) (blkT u.heap.size 104 (rpE.all [(f, k, (some ⟨gm, 0, none⟩, 8))]).toArray :: _) := H.alloc _ _
                        replace H := H.litOwn (c := 1) (by simp) (by simp)
                        refine hK.out _ _ (fun _ => by (try dsimp only); exact H.1) ?_
                        clear hK K
                        (try simp only [Act.put, List.setIfInBounds_toArray, List.set_cons_zero, List.set_cons_succ])
                        clear hHeld
                        generalize u.alloc (.cells #[.int .i64 f, .int .i64 k.g, .int .i64 k.lev, .int .i64 k.role, .slice (some ⟨gm, 0, none⟩) 8 8] 104) = u' at *
                        generalize u.heap.size = gg at *
                        clear u
                        obtain ⟨u, hu⟩ : ∃ u, u' = u := ⟨_, rfl⟩
                        rw [hu] at H ⊢
                        clear hu u'
                        have hHeld := H.1
                        refine late_ready (rs := [12]) (by kernel_rfl) (by simp) ?_; refine AllLate.cons (o := _) rfl (fun K hK => ?_) AllLate.nil
                        refine step_append_G (E := rpE) (some 70) rfl rfl (.tmp 64) (.tmp 69) 93 rfl 104 (.agg #[.int .i64 0, .int .i64 0, .int .i64 0, .int .i64 0, .slice none 0 0]) 56 Try.underlying93 Page14_info rfl (.slice A5 s.L.length c5) (rowsR s.L R) rfl (H.pick 1 rfl).own (some ⟨gg, 0, none⟩) 1 1 [(f, k, (some ⟨gm, 0, none⟩, 8))] rfl ((H.pick 0 rfl).own.src) rfl (by rw [hRl]; omega) (fun v' u' ho5 hc5 hb5 => ?_)
                        obtain ⟨A6, c6, rfl, hx1, hx2⟩ := ho5.form
                        clear hx1 hx2
                        have hl6 : (rowsR s.L R ++ [(f, k, ((some ⟨gm, 0, none⟩ : Option Addr), 8))]).length = s.L.length + 1 := by rw [List.length_append, hRl]; rfl
                        rw [hl6] at ho5 hb5 ⊢
                        replace H := (H.pick 1 rfl).app ho5 hc5 hb5
                        clear ho5 hc5 hb5 hl6
                        refine hK.out _ _ (fun _ => by (try dsimp only); exact H.1) ?_
                        clear hK K
                        (try simp only [Act.put, List.setIfInBounds_toArray, List.set_cons_zero, List.set_cons_succ])
                        clear hHeld u
                        have hqu := hst3.chg_ H.1 (by simp)
                        have c2 := hqu.cell 2; have f2 := hqu.frozen 2
                        simp only [List.getElem?_toArray, List.getElem?_cons_zero, List.getElem?_cons_succ] at c2
                        refine late_ready (rs := [13]) (by kernel_rfl) (by simp) ?_; refine AllLate.cons (o := _) rfl (fun K hK => ?_) AllLate.nil
                        go_simp
                        refine hK.out _ _ (fun _ => by (try dsimp only); exact H.1) ?_
                        clear hK K
                        (try simp only [Act.put, List.setIfInBounds_toArray, List.set_cons_zero, List.set_cons_succ])
                        refine late_ready (rs := [14]) (by kernel_rfl) (by simp) ?_; refine AllLate.cons (o := _) rfl (fun K hK => ?_) AllLate.nil
                        go_simp
                        refine hK.out _ _ (fun _ => by (try dsimp only); exact H.1) ?_
                        clear hK K
                        (try simp only [Act.put, List.setIfInBounds_toArray, List.set_cons_zero, List.set_cons_succ])
                        refine late_ready (rs := [15]) (by kernel_rfl) (by simp) ?_; refine AllLate.cons (o := _) rfl (fun K hK => ?_) AllLate.nil
                        go_simp
                        refine hK.out _ _ (fun e => absurd rfl e) ?_
                        clear hK K
                        (try simp only [Act.put, List.setIfInBounds_toArray, List.set_cons_zero, List.set_cons_succ])
                        refine late_done (by kernel_rfl) ?_ _
                        refine NoPanic.normal ?_
                        have hmore := (h3.new H.1).more (p := ⟨f, k, List.replicate 8 Slt.no⟩) (r := (some ⟨gm, 0, none⟩, 8)) (H.pick 0 rfl).own (H.pick 2 rfl).own
                        have hA6 : ∀ g ∈ lB A6, w.heap.size ≤ g := fun g hg => by
                          obtain ⟨S_, ⟨e_, _⟩, hS_⟩ := H.fst
                          have := hS_ g (by rw [e_]; cases A6 <;> exact hg)
                          have := y03.size; omega
                        have hgm : w.heap.size ≤ gm := by
                          obtain ⟨S_, ⟨e_, _⟩, hS_⟩ := (H.pick 2 rfl).fst
                          have := hS_ gm (by rw [e_]; simp [Value.ownBlock])
                          have := y03.size; omega
                        have hyv : Chg (rb :: q :: FS) w (u'.setCell ⟨q, 2, none⟩ (.slice A6 (s.L.length + 1) c6)) := ((y03.weak (fun i_ _ hi_ => by simp [hi_])).trans H.1 (by simp)).setCell (p := ⟨q, 2, none⟩) (by simp) _
                        clear hqu c2 f2 H h3 hst3 kb3 hRl
                        generalize u'.setCell ⟨q, 2, none⟩ (.slice A6 (s.L.length + 1) c6) = v0 at *
                        clear u'
                        go_wp2_with fail
                        go_loopw [10] (fun s10 wr => ∃ j : Nat, j ≤ 8 ∧ s10 = .int .i64 j ∧ RStX wr q rp rb fp n a m ⟨s.L ++ [⟨f, k, List.replicate 8 Slt.no⟩], s.fr.dropLast, K j⟩ A6 c6 (R ++ [(some ⟨gm, 0, none⟩, 8)]) FS ∧ Chg (rb :: q :: FS) w wr) (fun s10 _ => 8 - (intOf s10).toNat)
                        case atStart => exact ⟨0, by omega, rfl, hmore, hyv⟩
                        case round =>
                          obtain ⟨j, hj, rfl, hr, y⟩ := hrel
                          clear hmore hyv
                          by_cases hlt : j < 8
                          · have hjz : (j : Int) < 8 := by omega
                            have hset := RSet_at rp rb n (K j) f j 0 wr hr.hm
                            rw [← hKs] at hset
                            have c0 := hr.st.cell 0
                            simp only [List.getElem?_toArray, List.getElem?_cons_zero] at c0
                            go_wp2_with fail
                            refine hset.mono ?_; rintro e w9 ⟨rfl, y9, hm9⟩
                            have hr9 := hr.words y9 hm9
                            clear hset c0 hr
                            go_wp2_with fail
                            go_roundw
                            case rel => exact ⟨j + 1, by omega, by go_num, hr9, y.trans y9 (fun i_ _ hi_ => by simp only [List.mem_singleton] at hi_; subst hi_; simp)⟩
                            case measure => simp [intOf]; omega
                          · obtain rfl : j = 8 := by omega
                            have hjz : ¬ ((8 : Nat) : Int) < 8 := by omega
                            go_wp2_with fail
                            go_ret2
                            refine ⟨by (first | (rw [hmv.out, hmt.out]; rfl) | (rw [hmv.out]; rfl)), A6, c6, _, FS, by rw [hK8.out] at hr; exact hr, y.weak (fun i_ _ hi_ => by simp only [List.mem_cons, List.mem_append] at hi_ ⊢; rcases hi_ with h_ | h_ | h_ <;> simp [h_]), fun g_ hg_ => ?_, fun r_ hr_ => ?_⟩
                            · rw [List.mem_append] at hg_
                              rcases hg_ with h_ | h_
                              · exact .inr (hA6 g_ h_)
                              · exact .inl (by simp [h_])
                            · rw [List.mem_append] at hr_
                              rcases hr_ with h_ | h_
                              · exact .inl h_
                              · rw [List.mem_singleton] at h_; subst h_; exact .inr ⟨gm, rfl, hgm⟩
                      · go_simp
                        replace H : SepC w3 (u.alloc (.cells #[.int .i64 f, .int .i64 k.g, .int .i64 k.lev, .int .i64 k.role, .slice (some ⟨gm, 0, none⟩) 8 8] 104)) (blkT u.heap.size 104 (rpE.all [(f, k, (some ⟨gm, 0, none⟩, 8))]).toArray :: _) := H.alloc _ _
                        replace H := H.litOwn (c := 1) (by simp) (by simp)
                        refine hK.out _ _ (fun _ => by (try dsimp only); exact H.1) ?_
                        clear hK K
                        (try simp only [Act.put, List.setIfInBounds_toArray, List.set_cons_zero, List.set_cons_succ])
                        clear hHeld
                        generalize u.alloc (.cells #[.int .i64 f, .int .i64 k.g, .int .i64 k.lev, .int .i64 k.role, .slice (some ⟨gm, 0, none⟩) 8 8] 104) = u' at *
                        generalize u.heap.size = gg at *
                        clear u
                        obtain ⟨u, hu⟩ : ∃ u, u' = u := ⟨_, rfl⟩
                        rw [hu] at H ⊢
                        clear hu u'
                        have hHeld := H.1
                        refine late_ready (rs := [6]) (by kernel_rfl) (by simp) ?_; refine AllLate.cons (o := _) rfl (fun K hK => ?_) AllLate.nil
                        refine step_append_G (E := rpE) (some 64) rfl rfl (.tmp 59) (.tmp 63) 93 rfl 104 (.agg #[.int .i64 0, .int .i64 0, .int .i64 0, .int .i64 0, .slice none 0 0]) 56 Try.underlying93 Page14_info rfl (.slice (some ⟨ga, 0, none⟩) 0 0) [] rfl (H.pick 1 rfl).own LA s.L.length lc (rowsR s.L R) rfl ((h3.hl.new H.1).src) hRl (by simp; omega) (fun v' u' ho5 hc5 hb5 => ?_)
                        rw [List.nil_append] at ho5
                        obtain ⟨A5, c5, rfl, hx1, hx2⟩ := ho5.form
                        clear hx1 hx2
                        rw [hRl] at ho5 hb5 ⊢
                        replace H := (H.pick 1 rfl).app ho5 hc5 hb5
                        clear ho5 hc5 hb5
                        refine hK.out _ _ (fun _ => by (try dsimp only); exact H.1) ?_
                        clear hK K
                        (try simp only [Act.put, List.setIfInBounds_toArray, List.set_cons_zero, List.set_cons_succ])
                        clear hHeld u
                        obtain ⟨u, hu⟩ : ∃ u, u' = u := ⟨_, rfl⟩
                        rw [hu] at H ⊢
                        clear hu u'
                        have hHeld := H.1
                        refine late_ready (rs := [12]) (by kernel_rfl) (by simp) ?_; refine AllLate.cons (o := _) rfl (fun K hK => ?_) AllLate.nil
                        refine step_append_G (E := rpE) (some 70) rfl rfl (.tmp 64) (.tmp 69) 93 rfl 104 (.agg #[.int .i64 0, .int .i64 0, .int .i64 0, .int .i64 0, .slice none 0 0]) 56 Try.underlying93 Page14_info rfl (.slice A5 s.L.length c5) (rowsR s.L R) rfl (H.pick 0 rfl).own (some ⟨gg, 0, none⟩) 1 1 [(f, k, (some ⟨gm, 0, none⟩, 8))] rfl ((H.pick 1 rfl).own.src) rfl (by rw [hRl]; omega) (fun v' u' ho5 hc5 hb5 => ?_)
                        obtain ⟨A6, c6, rfl, hx1, hx2⟩ := ho5.form
                        clear hx1 hx2
                        have hl6 : (rowsR s.L R ++ [(f, k, ((some ⟨gm, 0, none⟩ : Option Addr), 8))]).length = s.L.length + 1 := by rw [List.length_append, hRl]; rfl
                        rw [hl6] at ho5 hb5 ⊢
                        replace H := (H.pick 0 rfl).app ho5 hc5 hb5
                        clear ho5 hc5 hb5 hl6
                        refine hK.out _ _ (fun _ => by (try dsimp only); exact H.1) ?_
                        clear hK K
                        (try simp only [Act.put, List.setIfInBounds_toArray, List.set_cons_zero, List.set_cons_succ])
                        clear hHeld u
                        have hqu := hst3.chg_ H.1 (by simp)
                        have c2 := hqu.cell 2; have f2 := hqu.frozen 2
                        simp only [List.getElem?_toArray, List.getElem?_cons_zero, List.getElem?_cons_succ] at c2
                        refine late_ready (rs := [13]) (by kernel_rfl) (by simp) ?_; refine AllLate.cons (o := _) rfl (fun K hK => ?_) AllLate.nil
                        go_simp
                        refine hK.out _ _ (fun _ => by (try dsimp only); exact H.1) ?_
                        clear hK K
                        (try simp only [Act.put, List.setIfInBounds_toArray, List.set_cons_zero, List.set_cons_succ])
                        refine late_ready (rs := [14]) (by kernel_rfl) (by simp) ?_; refine AllLate.cons (o := _) rfl (fun K hK => ?_) AllLate.nil
                        go_simp
                        refine hK.out _ _ (fun _ => by (try dsimp only); exact H.1) ?_
                        clear hK K
                        (try simp only [Act.put, List.setIfInBounds_toArray, List.set_cons_zero, List.set_cons_succ])
                        refine late_ready (rs := [15]) (by kernel_rfl) (by simp) ?_; refine AllLate.cons (o := _) rfl (fun K hK => ?_) AllLate.nil
                        go_simp
                        refine hK.out _ _ (fun e => absurd rfl e) ?_
                        clear hK K
                        (try simp only [Act.put, List.setIfInBounds_toArray, List.set_cons_zero, List.set_cons_succ])
                        refine late_done (by kernel_rfl) ?_ _
                        refine NoPanic.normal ?_
                        have hmore := (h3.new H.1).more (p := ⟨f, k, List.replicate 8 Slt.no⟩) (r := (some ⟨gm, 0, none⟩, 8)) (H.pick 0 rfl).own (H.pick 2 rfl).own
                        have hA6 : ∀ g ∈ lB A6, w.heap.size ≤ g := fun g hg => by
                          obtain ⟨S_, ⟨e_, _⟩, hS_⟩ := H.fst
                          have := hS_ g (by rw [e_]; cases A6 <;> exact hg)
                          have := y03.size; omega
                        have hgm : w.heap.size ≤ gm := by
                          obtain ⟨S_, ⟨e_, _⟩, hS_⟩ := (H.pick 2 rfl).fst
                          have := hS_ gm (by rw [e_]; simp [Value.ownBlock])
                          have := y03.size; omega
                        have hyv : Chg (rb :: q :: FS) w (u'.setCell ⟨q, 2, none⟩ (.slice A6 (s.L.length + 1) c6)) := ((y03.weak (fun i_ _ hi_ => by simp [hi_])).trans H.1 (by simp)).setCell (p := ⟨q, 2, none⟩) (by simp) _
                        clear hqu c2 f2 H h3 hst3 kb3 hRl
                        generalize u'.setCell ⟨q, 2, none⟩ (.slice A6 (s.L.length + 1) c6) = v0 at *
                        clear u'
                        go_wp2_with fail
                        go_loopw [10] (fun s10 wr => ∃ j : Nat, j ≤ 8 ∧ s10 = .int .i64 j ∧ RStX wr q rp rb fp n a m ⟨s.L ++ [⟨f, k, List.replicate 8 Slt.no⟩], s.fr.dropLast, K j⟩ A6 c6 (R ++ [(some ⟨gm, 0, none⟩, 8)]) FS ∧ Chg (rb :: q :: FS) w wr) (fun s10 _ => 8 - (intOf s10).toNat)
                        case atStart => exact ⟨0, by omega, rfl, hmore, hyv⟩
                        case round =>
                          obtain ⟨j, hj, rfl, hr, y⟩ := hrel
                          clear hmore hyv
                          by_cases hlt : j < 8
                          · have hjz : (j : Int) < 8 := by omega
                            have hset := RSet_at rp rb n (K j) f j 0 wr hr.hm
                            rw [← hKs] at hset
                            have c0 := hr.st.cell 0
                            simp only [List.getElem?_toArray, List.getElem?_cons_zero] at c0
                            go_wp2_with fail
                            refine hset.mono ?_; rintro e w9 ⟨rfl, y9, hm9⟩
                            have hr9 := hr.words y9 hm9
                            clear hset c0 hr
                            go_wp2_with fail
                            go_roundw
                            case rel => exact ⟨j + 1, by omega, by go_num, hr9, y.trans y9 (fun i_ _ hi_ => by simp only [List.mem_singleton] at hi_; subst hi_; simp)⟩
                            case measure => simp [intOf]; omega
                          · obtain rfl : j = 8 := by omega
                            have hjz : ¬ ((8 : Nat) : Int) < 8 := by omega
                            go_wp2_with fail
                            go_ret2
                            refine ⟨by (first | (rw [hmv.out, hmt.out]; rfl) | (rw [hmv.out]; rfl)), A6, c6, _, FS, by rw [hK8.out] at hr; exact hr, y.weak (fun i_ _ hi_ => by simp only [List.mem_cons, List.mem_append] at hi_ ⊢; rcases hi_ with h_ | h_ | h_ <;> simp [h_]), fun g_ hg_ => ?_, fun r_ hr_ => ?_⟩
                            · rw [List.mem_append] at hg_
                              rcases hg_ with h_ | h_
                              · exact .inr (hA6 g_ h_)
                              · exact .inl (by simp [h_])
                            · rw [List.mem_append] at hr_
                              rcases hr_ with h_ | h_
                              · exact .inl h_
                              · rw [List.mem_singleton] at h_; subst h_; exact .inr ⟨gm, rfl, hgm⟩
                    · go_simp
                      replace H : SepC w3 (u.alloc (.cells #[.int .i64 f, .int .i64 k.g, .int .i64 k.lev, .int .i64 k.role, .slice (some ⟨gm, 0, none⟩) 8 8] 104)) (blkT u.heap.size 104 (rpE.all [(f, k, (some ⟨gm, 0, none⟩, 8))]).toArray :: _) := H.alloc _ _
                      replace H := H.litOwn (c := 1) (by simp) (by simp)
                      refine hK.out _ _ (fun _ => by (try dsimp only); exact H.1) ?_
                      clear hK K
                      (try simp only [Act.put, List.setIfInBounds_toArray, List.set_cons_zero, List.set_cons_succ])
                      clear hHeld
                      generalize u.alloc (.cells #[.int .i64 f, .int .i64 k.g, .int .i64 k.lev, .int .i64 k.role, .slice (some ⟨gm, 0, none⟩) 8 8] 104) = u' at *
                      generalize u.heap.size = gg at *
                      clear u
                      obtain ⟨u, hu⟩ : ∃ u, u' = u := ⟨_, rfl⟩
                      rw [hu] at H ⊢
                      clear hu u'
                      have hHeld := H.1
                      refine late_ready (rs := [1]) (by kernel_rfl) (by simp) ?_; refine AllLate.cons (o := _) rfl (fun K hK => ?_) AllLate.nil
                      go_simp
                      replace H : SepC w3 (u.alloc (.cells #[] 104)) (blkT u.heap.size 104 (rpE.all []).toArray :: _) := H.alloc _ _
                      replace H := H.litOwn (c := 0) (by simp) (by simp)
                      refine hK.out _ _ (fun _ => by (try dsimp only); exact H.1) ?_
                      clear hK K
                      (try simp only [Act.put, List.setIfInBounds_toArray, List.set_cons_zero, List.set_cons_succ])
                      clear hHeld
                      generalize u.alloc (.cells #[] 104) = u' at *
                      generalize u.heap.size = ga at *
                      clear u
                      obtain ⟨u, hu⟩ : ∃ u, u' = u := ⟨_, rfl⟩
                      rw [hu] at H ⊢
                      clear hu u'
                      have hHeld := H.1
                      refine late_ready (rs := [6]) (by kernel_rfl) (by simp) ?_; refine AllLate.cons (o := _) rfl (fun K hK => ?_) AllLate.nil
                      refine step_append_G (E := rpE) (some 64) rfl rfl (.tmp 59) (.tmp 63) 93 rfl 104 (.agg #[.int .i64 0, .int .i64 0, .int .i64 0, .int .i64 0, .slice none 0 0]) 56 Try.underlying93 Page14_info rfl (.slice (some ⟨ga, 0, none⟩) 0 0) [] rfl (H.pick 0 rfl).own LA s.L.length lc (rowsR s.L R) rfl ((h3.hl.new H.1).src) hRl (by simp; omega) (fun v' u' ho5 hc5 hb5 => ?_)
                      rw [List.nil_append] at ho5
                      obtain ⟨A5, c5, rfl, hx1, hx2⟩ := ho5.form
                      clear hx1 hx2
                      rw [hRl] at ho5 hb5 ⊢
                      replace H := (H.pick 0 rfl).app ho5 hc5 hb5
                      clear ho5 hc5 hb5
                      refine hK.out _ _ (fun _ => by (try dsimp only); exact H.1) ?_
                      clear hK K
                      (try simp only [Act.put, List.setIfInBounds_toArray, List.set_cons_zero, List.set_cons_succ])
                      clear hHeld u
                      obtain ⟨u, hu⟩ : ∃ u, u' = u := ⟨_, rfl⟩
                      rw [hu] at H ⊢
                      clear hu u'
                      have hHeld := H.1
                      refine late_ready (rs := [12]) (by kernel_rfl) (by simp) ?_; refine AllLate.cons (o := _) rfl (fun K hK => ?_) AllLate.nil
                      refine step_append_G (E := rpE) (some 70) rfl rfl (.tmp 64) (.tmp 69) 93 rfl 104 (.agg #[.int .i64 0, .int .i64 0, .int .i64 0, .int .i64 0, .slice none 0 0]) 56 Try.underlying93 Page14_info rfl (.slice A5 s.L.length c5) (rowsR s.L R) rfl (H.pick 0 rfl).own (some ⟨gg, 0, none⟩) 1 1 [(f, k, (some ⟨gm, 0, none⟩, 8))] rfl ((H.pick 1 rfl).own.src) rfl (by rw [hRl]; omega) (fun v' u' ho5 hc5 hb5 => ?_)
                      obtain ⟨A6, c6, rfl, hx1, hx2⟩ := ho5.form
                      clear hx1 hx2
                      have hl6 : (rowsR s.L R ++ [(f, k, ((some ⟨gm, 0, none⟩ : Option Addr), 8))]).length = s.L.length + 1 := by rw [List.length_append, hRl]; rfl
                      rw [hl6] at ho5 hb5 ⊢
                      replace H := (H.pick 0 rfl).app ho5 hc5 hb5
                      clear ho5 hc5 hb5 hl6
                      refine hK.out _ _ (fun _ => by (try dsimp only); exact H.1) ?_
                      clear hK K
                      (try simp only [Act.put, List.setIfInBounds_toArray, List.set_cons_zero, List.set_cons_succ])
                      clear hHeld u
                      have hqu := hst3.chg_ H.1 (by simp)
                      have c2 := hqu.cell 2; have f2 := hqu.frozen 2
                      simp only [List.getElem?_toArray, List.getElem?_cons_zero, List.getElem?_cons_succ] at c2
                      refine late_ready (rs := [13]) (by kernel_rfl) (by simp) ?_; refine AllLate.cons (o := _) rfl (fun K hK => ?_) AllLate.nil
                      go_simp
                      refine hK.out _ _ (fun _ => by (try dsimp only); exact H.1) ?_
                      clear hK K
                      (try simp only [Act.put, List.setIfInBounds_toArray, List.set_cons_zero, List.set_cons_succ])
                      refine late_ready (rs := [14]) (by kernel_rfl) (by simp) ?_; refine AllLate.cons (o := _) rfl (fun K hK => ?_) AllLate.nil
                      go_simp
                      refine hK.out _ _ (fun _ => by (try dsimp only); exact H.1) ?_
                      clear hK K
                      (try simp only [Act.put, List.setIfInBounds_toArray, List.set_cons_zero, List.set_cons_succ])
                      refine late_ready (rs := [15]) (by kernel_rfl) (by simp) ?_; refine AllLate.cons (o := _) rfl (fun K hK => ?_) AllLate.nil
                      go_simp
                      refine hK.out _ _ (fun e => absurd rfl e) ?_
                      clear hK K
                      (try simp only [Act.put, List.setIfInBounds_toArray, List.set_cons_zero, List.set_cons_succ])
                      refine late_done (by kernel_rfl) ?_ _
                      refine NoPanic.normal ?_
                      have hmore := (h3.new H.1).more (p := ⟨f, k, List.replicate 8 Slt.no⟩) (r := (some ⟨gm, 0, none⟩, 8)) (H.pick 0 rfl).own (H.pick 2 rfl).own
                      have hA6 : ∀ g ∈ lB A6, w.heap.size ≤ g := fun g hg => by
                        obtain ⟨S_, ⟨e_, _⟩, hS_⟩ := H.fst
                        have := hS_ g (by rw [e_]; cases A6 <;> exact hg)
                        have := y03.size; omega
                      have hgm : w.heap.size ≤ gm := by
                        obtain ⟨S_, ⟨e_, _⟩, hS_⟩ := (H.pick 2 rfl).fst
                        have := hS_ gm (by rw [e_]; simp [Value.ownBlock])
                        have := y03.size; omega
                      have hyv : Chg (rb :: q :: FS) w (u'.setCell ⟨q, 2, none⟩ (.slice A6 (s.L.length + 1) c6)) := ((y03.weak (fun i_ _ hi_ => by simp [hi_])).trans H.1 (by simp)).setCell (p := ⟨q, 2, none⟩) (by simp) _
                      clear hqu c2 f2 H h3 hst3 kb3 hRl
                      generalize u'.setCell ⟨q, 2, none⟩ (.slice A6 (s.L.length + 1) c6) = v0 at *
                      clear u'
                      go_wp2_with fail
                      go_loopw [10] (fun s10 wr => ∃ j : Nat, j ≤ 8 ∧ s10 = .int .i64 j ∧ RStX wr q rp rb fp n a m ⟨s.L ++ [⟨f, k, List.replicate 8 Slt.no⟩], s.fr.dropLast, K j⟩ A6 c6 (R ++ [(some ⟨gm, 0, none⟩, 8)]) FS ∧ Chg (rb :: q :: FS) w wr) (fun s10 _ => 8 - (intOf s10).toNat)
                      case atStart => exact ⟨0, by omega, rfl, hmore, hyv⟩
                      case round =>
                        obtain ⟨j, hj, rfl, hr, y⟩ := hrel
                        clear hmore hyv
                        by_cases hlt : j < 8
                        · have hjz : (j : Int) < 8 := by omega
                          have hset := RSet_at rp rb n (K j) f j 0 wr hr.hm
                          rw [← hKs] at hset
                          have c0 := hr.st.cell 0
                          simp only [List.getElem?_toArray, List.getElem?_cons_zero] at c0
                          go_wp2_with fail
                          refine hset.mono ?_; rintro e w9 ⟨rfl, y9, hm9⟩
                          have hr9 := hr.words y9 hm9
                          clear hset c0 hr
                          go_wp2_with fail
                          go_roundw
                          case rel => exact ⟨j + 1, by omega, by go_num, hr9, y.trans y9 (fun i_ _ hi_ => by simp only [List.mem_singleton] at hi_; subst hi_; simp)⟩
                          case measure => simp [intOf]; omega
                        · obtain rfl : j = 8 := by omega
                          have hjz : ¬ ((8 : Nat) : Int) < 8 := by omega
                          go_wp2_with fail
                          go_ret2
                          refine ⟨by (first | (rw [hmv.out, hmt.out]; rfl) | (rw [hmv.out]; rfl)), A6, c6, _, FS, by rw [hK8.out] at hr; exact hr, y.weak (fun i_ _ hi_ => by simp only [List.mem_cons, List.mem_append] at hi_ ⊢; rcases hi_ with h_ | h_ | h_ <;> simp [h_]), fun g_ hg_ => ?_, fun r_ hr_ => ?_⟩
                          · rw [List.mem_append] at hg_
                            rcases hg_ with h_ | h_
                            · exact .inr (hA6 g_ h_)
                            · exact .inl (by simp [h_])
                          · rw [List.mem_append] at hr_
                            rcases hr_ with h_ | h_
                            · exact .inl h_
                            · rw [List.mem_singleton] at h_; subst h_; exact .inr ⟨gm, rfl, hgm⟩
                · have htv : takeV s.fr = 0 := by unfold takeV; rw [List.isEmpty_iff.1 hem]; rfl
                  have htb : takeB s.fr = false := by unfold takeB; rw [hem]; rfl
                  rw [htv, htb] at hlast
                  have hmB' : makeB s k = false := by rw [hmB, hem]; rfl
                  obtain ⟨e1, e2⟩ := hno hmB'
                  rw [e1, e2, hmB']
                  have hsn : s.fr.dropLast = s.fr := by rw [List.isEmpty_iff.1 hem]; rfl
                  rw [hsn] at hlast
                  clear hno hmB hmB' e1 e2 hem htv htb hsn
                  go_enter Try.func50, Try.ntmps50
                  go_wp2_with fail
                  refine (hfd _ y0).mono ?_; rintro e w2 ⟨rfl, y2⟩
                  have kb2 := kb0.chg_ y2 (by simp)
                  have z2 := y0.trans y2 (by simp)
                  clear hfd x0 x1 x2
                  obtain ⟨kb, hkb⟩ : ∃ kb, w.heap.size = kb := ⟨_, rfl⟩
                  rw [hkb] at kb2 hkl ⊢
                  have hkb2 := Nat.lt_of_lt_of_le hkl y2.size
                  clear y2 kb0 hkl
                  clear y0
                  replace hkb := Lib.hid hkb
                  have x0 := kb2.cell 0; have x1 := kb2.cell 1; have x2 := kb2.cell 2
                  simp only [List.getElem?_toArray, List.getElem?_cons_zero, List.getElem?_cons_succ] at x0 x1 x2
                  have q1 := hf1 _ z2
                  go_wp2_with fail
                  refine (hlast _ z2).mono ?_; rintro e w3 ⟨rfl, y3, hf3⟩
                  have h3 := (h.new z2).frees y3 hf3
                  go_wp2_with fail
                  go_ret2
                  exact ⟨rfl, LA, lc, R, FS, h3, (z2.weak (by simp)).trans (y3.weak (T := rb :: q :: (lB LA ++ FS)) (fun i _ hi => by simp [hi])) (fun _ _ h => h), fun _ h => .inl h, RNew.refl _ _⟩
end

end Go.Proofs.Ytpmfooeifhhfkaa
