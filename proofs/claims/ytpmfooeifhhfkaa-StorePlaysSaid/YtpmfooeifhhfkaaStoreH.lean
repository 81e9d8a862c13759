/-
  The contract of package store's links, and of Parents and Leaves.
-/
import Derived.Test.YtpmfooeifhhfkaaStoreG
namespace Go.Proofs.Ytpmfooeifhhfkaa
open Go.RowKit Go.Maps Go.Shelf

attribute [local go_sem] Oper.semAt_some

/-- what links' variables hold between two rounds -/
structure LnkI (kb tb lb m1 : Nat) (kind to_ : Int) (L : List Pg) (w : World) (pre : List (Ix8 L.length)) (W : World) : Prop where
  hk : Blk W kb 3 #[.int .i64 kind]
  ht : Blk W tb 3 #[.int .i64 to_]
  hl : ∃ u, Blk W lb 54 #[u] ∧ OwnG atE W 70 u (lnkF kind to_ L pre) ∧ ∀ g ∈ u.ownBlock.toList, w.heap.size ≤ g
  ch : Chg [] w W
  lo : m1 ≤ W.heap.size
theorem LnkI.own {kb tb lb m1 : Nat} {kind to_ : Int} {L : List Pg} {w : World} {B : Nat} (hB : w.heap.size ≤ B) : OwnFrom B (LnkI kb tb lb m1 kind to_ L w) := by
  intro pre W W' row h hg hr
  have hr' := fun r e => (hr r e).2
  obtain ⟨u, h1, h2, h3⟩ := h.hl
  exact ⟨blk_kept h.hk hg hr', blk_kept h.ht hg hr', ⟨u, blk_kept h1 hg hr', own_kept h2 hg hr', h3⟩, chg_kept h.ch hB hg hr, Nat.le_trans h.lo hg.size⟩

/-- a list of links, of one's own, new since w -/
def LnkP (T : List (Int × Int)) (w : World) (e : Ending) (w' : World) : Prop := ∃ A c, e = .returned (.slice A T.length c) ∧ OwnG atE w' 70 (.slice A T.length c) T ∧ (∀ g ∈ (Value.slice A T.length c).ownBlock.toList, w.heap.size ≤ g) ∧ Chg [] w w'

set_option maxRecDepth 100000 in
set_option maxHeartbeats 8000000 in
theorem Slinks_any {q hp hb n a m fp mp : Nat} {s : Sr} {FS B : List Nat} {v : Value} (kind to_ : Int) (w : World) (h : StX w q hp hb n a m s fp mp FS v B) (hN : s.L.length ≤ 256) :
    Calls Try.prog 63 #[.pointer (some ⟨q, 0, none⟩), .int .i64 kind, .int .i64 to_] w (LnkP (toldP kind to_ s.L) w) := by
  have hro : Fence.wide.round = none := rfl
  refine (callsIn_wide (n := 3)).1 ?_
  refine callsIn_of_wp_marks Try.func63 rfl trivial ?_ hro
  simp only [Try.ntmps63, List.size_toArray, List.length_cons, List.length_nil, Nat.reduceAdd, Nat.reduceSub, Array.replicate_succ, Array.replicate_zero, List.push_toArray, List.append_toArray, List.nil_append, List.cons_append]
  have k1 := ((Blk.new w 3 #[.int .i64 kind]).alloc (.cells #[.int .i64 to_] 3)).alloc (.cells #[.slice none 0 0] 54)
  have r1 := (Blk.new (w.alloc (.cells #[.int .i64 kind] 3)) 3 #[.int .i64 to_]).alloc (.cells #[.slice none 0 0] 54)
  have o1 := Blk.new ((w.alloc (.cells #[.int .i64 kind] 3)).alloc (.cells #[.int .i64 to_] 3)) 54 #[.slice none 0 0]
  rw [World.size_alloc] at r1
  rw [World.size_alloc, World.size_alloc] at o1
  have y1 := (((Chg.refl [] w).alloc (.cells #[.int .i64 kind] 3)).alloc (.cells #[.int .i64 to_] 3)).alloc (.cells #[.slice none 0 0] 54)
  gi_wp2
  generalize ((w.alloc (.cells #[.int .i64 kind] 3)).alloc (.cells #[.int .i64 to_] 3)).alloc (.cells #[.slice none 0 0] 54) = w1 at *
  (first | refine ⟨trivial, (fun hh => by cases hh), ?_⟩ | refine ⟨(fun hh => by cases hh), ?_⟩ | refine ⟨trivial, ?_⟩ | skip)
  refine (callsIn_wide.2 (slots_any q _)).mono ?_; rintro e w2 ⟨rfl, hw2⟩
  have y12 : Chg [] w1 w2 := by rw [hw2]; exact (Chg.refl [] w1).alloc _
  have b2 : Blk w2 w1.heap.size 30 #[.pointer (some ⟨q, 0, none⟩)] := by rw [hw2]; exact Blk.new _ _ _
  replace k1 := k1.chg_ y12 (by simp); replace r1 := r1.chg_ y12 (by simp); replace o1 := o1.chg_ y12 (by simp); replace y1 := y1.trans y12 (by simp)
  clear hw2 y12
  generalize w1.heap.size = bb at *
  have hI0 : LnkI w.heap.size (w.heap.size + 1) (w.heap.size + 1 + 1) w2.heap.size kind to_ s.L w [] w2 := ⟨k1, r1, ⟨_, o1, OwnG.none_ _ _, by intro g hg; simp [Value.ownBlock] at hg⟩, y1, Nat.le_refl _⟩
  have hml : w.heap.size ≤ w2.heap.size := y1.size
  clear k1 r1 o1
  gi_wp2
  refine wpIn_rangeFunc_ownG (a := _) hro (by decide) (gf := 80) (lb := #[.pointer (some ⟨bb, 0, none⟩)]) rfl trivial (enters_of Try.func80 (by kernel_rfl) rfl)
    (slots_stops (3 - 1) bb w w2 h y1 b2) KpS.t (KpS.b hml) (Below.refl _ _) (fun _ => rfl)
    (LnkI w.heap.size (w.heap.size + 1) (w.heap.size + 1 + 1) w2.heap.size kind to_ s.L w) (fun _ _ _ => False) (LnkI.own hml) (fun _ _ _ _ _ hs _ _ => hs) hI0
    (fun x => { tmps := #[.pointer (some ⟨q, 0, none⟩), .int .i64 kind, .int .i64 to_, undef, .pointer (some ⟨w.heap.size, 0, none⟩), .pointer (some ⟨w.heap.size + 1, 0, none⟩), .slice none 0 0, .pointer (some ⟨w.heap.size + 1 + 1, 0, none⟩), .pointer (some ⟨B.getD (x.val / 8) 0, 0, none⟩), .int .i64 ((x.val % 8 : Nat) : Int), undef, .pointer (some ⟨q, 0, none⟩), .func (.func 80) #[] #[.pointer (some ⟨bb, 0, none⟩)], .pointer (some ⟨B.getD (x.val / 8) 0, 0, none⟩), .int .i64 ((x.val % 8 : Nat) : Int), undef, undef, undef, undef, undef, undef, undef, undef, undef, undef, undef, undef, undef, undef, undef, undef, undef, undef, undef, undef, undef, undef, undef, undef, undef, undef], defers := [] }) ?assign ?body ?done ?stop
  case assign =>
    intro l x W K hK
    unfold encI
    gi_wp2
    exact hK
  case body =>
    rintro l pre x W hI hlt
    obtain ⟨b, hen, hpb0, hmem⟩ := h.pgx x
    have hgb : B.getD (x.val / 8) 0 = b := by unfold encI at hen; simpa using hen
    rw [hgb]
    have hpb : PgB W b (pgX s.L x) := Blk.chg_ hpb0 hI.ch (by simp)
    have hi8 : x.val % 8 < 8 := Nat.mod_lt _ (by decide)
    have hsx : (pgX s.L x).s[x.val % 8]? = some (slX s.L x) := by
      have h8 := h.e8 _ hmem
      unfold slX
      rw [List.getD_eq_getElem?_getD, List.getElem?_eq_getElem (by omega)]; rfl
    have hF := lnkF_snoc kind to_ s.L pre x
    have hFl := lnkF_len kind to_ s.L pre
    have hkb := hI.hk; have htb := hI.ht
    obtain ⟨u, hlb, hown, hug⟩ := hI.hl
    have hch := hI.ch; have hlo := hI.lo
    clear hI hpb0 hen hgb
    obtain ⟨s0, s1, s2, s3, s4⟩ := sltAt5 (hpb.slot hsx)
    clear hsx
    generalize slX s.L x = sl at *
    generalize pgX s.L x = p at *
    generalize x.val % 8 = i at *
    have hiz : (i : Int) < 8 := by omega
    obtain ⟨kd, to, ⟨rw_, ru, rx⟩⟩ := sl
    simp only at s0 s1 s2 s3 s4 hF
    have kc := (hkb.alloc (.cells #[.int .i64 kd, .int .i64 to, .bool rw_, .bool ru, .bool rx] 45)).cell 0
    have tc := (htb.alloc (.cells #[.int .i64 kd, .int .i64 to, .bool rw_, .bool ru, .bool rx] 45)).cell 0
    simp only [List.getElem?_toArray, List.getElem?_cons_zero] at kc tc
    have hst1 := StpS.new (m := w.heap.size) ((Chg.refl [] W).alloc (.cells #[.int .i64 kd, .int .i64 to, .bool rw_, .bool ru, .bool rx] 45)) hch.size
    have hsame : ∀ t : List (Int × Int), lnkF kind to_ s.L pre = t → LnkI w.heap.size (w.heap.size + 1) (w.heap.size + 1 + 1) w2.heap.size kind to_ s.L w pre W → True := fun _ _ _ => trivial
    clear hsame
    cases h1 : (kd == kind) with
    | false =>
      have hkd : ¬ (kd = kind ∧ to = to_) := by simp at h1; intro e; exact h1 e.1
      rw [if_neg hkd, List.append_nil] at hF
      replace hF := Lib.hid hF
      clear hkd
      gi_wp2
      exact ⟨hst1.1.from _, hst1.2, hkb.alloc _, htb.alloc _, ⟨u, hlb.alloc _, by rw [hF.out]; exact hown.new ((Chg.refl [] W).alloc _), hug⟩, hch.alloc _, by rw [World.size_alloc]; omega⟩
    | true =>
      cases h2 : (to == to_) with
      | false =>
        have hkd : ¬ (kd = kind ∧ to = to_) := by simp at h2; intro e; exact h2 e.2
        rw [if_neg hkd, List.append_nil] at hF
        replace hF := Lib.hid hF
        clear hkd
        gi_wp2
        exact ⟨hst1.1.from _, hst1.2, hkb.alloc _, htb.alloc _, ⟨u, hlb.alloc _, by rw [hF.out]; exact hown.new ((Chg.refl [] W).alloc _), hug⟩, hch.alloc _, by rw [World.size_alloc]; omega⟩
      | true =>
        have hkd : kd = kind ∧ to = to_ := by simp at h1 h2; exact ⟨h1, h2⟩
        rw [if_pos hkd] at hF
        replace hF := Lib.hid hF
        clear hkd
        gi_wp2
        have y3 := (Chg.refl [] W).alloc (.cells #[.int .i64 kd, .int .i64 to, .bool rw_, .bool ru, .bool rx] 45)
        have hpb3 : PgB (W.alloc (.cells #[.int .i64 kd, .int .i64 to, .bool rw_, .bool ru, .bool rx] 45)) b p := Blk.chg_ hpb y3 (by simp)
        have hlb3 := hlb.chg_ y3 (by simp)
        have hown3 := hown.new y3
        have hkb3 := hkb.chg_ y3 (by simp); have htb3 := htb.chg_ y3 (by simp)
        have hch3 := hch.trans y3 (by simp)
        have hlo3 := Nat.le_trans hlo y3.size
        clear hpb hlb hown hkb htb y3 kc tc s0 s1 s2 s3 s4 h1 h2 hch hlo
        generalize W.alloc (.cells #[.int .i64 kd, .int .i64 to, .bool rw_, .bool ru, .bool rx] 45) = W3 at *
        have hlu : w.heap.size + 1 + 1 ∉ u.ownBlock.toList := fun hm => by
          obtain ⟨cs, hb_⟩ := own_cells hown3 _ hm
          exact Blk.type_ne hb_ hlb3 (by decide) rfl
        have hbu : ∀ g ∈ u.ownBlock.toList, ∃ cs, Blk W3 g 70 cs := own_cells hown3
        obtain ⟨A, c, rfl, hnil, _⟩ := hown3.form
        have hlc := hlb3.cell 0; have hlf := hlb3.frozen 0
        simp only [List.getElem?_toArray, List.getElem?_cons_zero] at hlc
        have hbn : b ∉ (w.heap.size + 1 + 1) :: (Value.slice A (lnkF kind to_ s.L pre).length c).ownBlock.toList := fun hm => by
          simp only [List.mem_cons] at hm
          rcases hm with hm | hm
          · exact Blk.type_ne hpb3 hlb3 (by decide) hm
          · obtain ⟨cs, hb_⟩ := hbu _ hm; exact Blk.type_ne hpb3 hb_ (by decide) rfl
        have k4 := (((Chg.refl [] W3).drew).alloc (.cells #[.int .i64 p.f, .int .i64 i] 70))
        have hown4 := hown3.new k4
        have hat4 := Blk.new W3.drew 70 #[.int .i64 p.f, .int .i64 i]
        have hfin : ∀ (v5 : Value) (w5 : World) (z : Nat), z = W3.heap.size + 1 → Chg ((w.heap.size + 1 + 1) :: (Value.slice A (lnkF kind to_ s.L pre).length c).ownBlock.toList) W3 w5 → OwnG atE w5 70 v5 (lnkF kind to_ s.L pre ++ [(p.f, (i : Int))]) → (v5.ownBlock = (Value.slice A (lnkF kind to_ s.L pre).length c).ownBlock ∨ v5.ownBlock = some z) → Blk w5 (w.heap.size + 1 + 1) 54 #[(Value.slice A (lnkF kind to_ s.L pre).length c)] →
            KeepsFrom w2.heap.size W (w5.setCell ⟨w.heap.size + 1 + 1, 0, none⟩ v5) ∧ KpS w.heap.size W (w5.setCell ⟨w.heap.size + 1 + 1, 0, none⟩ v5) ∧ LnkI w.heap.size (w.heap.size + 1) (w.heap.size + 1 + 1) w2.heap.size kind to_ s.L w (pre ++ [x]) (w5.setCell ⟨w.heap.size + 1 + 1, 0, none⟩ v5) := by
          intro v5 w5 z hz hk5 ho5 hb5 hlb5
          have hkc := hk5.setCell (p := ⟨w.heap.size + 1 + 1, 0, none⟩) (by simp) v5
          have hst2 := StpS.of_chg (m := w.heap.size) hkc hch3.size (by
            intro j hj
            simp only [List.mem_cons] at hj
            rcases hj with rfl | hj
            · exact ⟨by omega, _, _, hlb3, by decide⟩
            · obtain ⟨cs, hb_⟩ := hbu _ hj; exact ⟨hug _ hj, _, _, hb_, by decide⟩)
          have hst := hst1.t hst2
          have hnk : ∀ g, g ∈ ((w.heap.size + 1 + 1) :: (Value.slice A (lnkF kind to_ s.L pre).length c).ownBlock.toList) → g ≠ w.heap.size ∧ g ≠ w.heap.size + 1 := fun g hg => by
            simp only [List.mem_cons] at hg
            rcases hg with rfl | hg
            · omega
            · obtain ⟨cs, hb_⟩ := hbu _ hg; exact ⟨Blk.type_ne hb_ hkb3 (by decide), Blk.type_ne hb_ htb3 (by decide)⟩
          refine ⟨hst.1.from _, hst.2, hkb3.chg_ hkc (fun hm => (hnk _ hm).1 rfl), htb3.chg_ hkc (fun hm => (hnk _ hm).2 rfl), ⟨_, hlb5.set_ 0 _, ?_, ?_⟩, hst2.2.chg hch3 rfl, Nat.le_trans hlo3 hkc.size⟩
          · rw [hF.out]
            refine ho5.chg ((Chg.refl [w.heap.size + 1 + 1] w5).setCell (p := ⟨w.heap.size + 1 + 1, 0, none⟩) (by simp) _) (fun g hg hm => ?_)
            simp only [List.mem_singleton] at hm; subst hm
            obtain ⟨cs, hb_⟩ := own_cells ho5 _ hg; exact Blk.type_ne hb_ hlb5 (by decide) rfl
          · intro g hg
            rcases hb5 with e | e
            · rw [e] at hg; exact hug g hg
            · rw [e] at hg; simp at hg; subst hg; have := hch3.size; omega
        have hsrc4 : Src (W3.drew.alloc (.cells #[.int .i64 p.f, .int .i64 i] 70)) atE.k (some ⟨W3.heap.size, 0, none⟩) 1 1 (atE.all [(p.f, (i : Int))]) := (OwnG.lit (E := atE) (L := [(p.f, (i : Int))]) hat4 (by simp)).src
        refine wpIn_region_only (S := fun w' => Chg ((w.heap.size + 1 + 1) :: (Value.slice A (lnkF kind to_ s.L pre).length c).ownBlock.toList) W3 w') (by kernel_rfl) (by kernel_rfl) ((Chg.refl _ W3).drew) (fun hHeld => ?_)
        (refine take_on 1 (some 32) (v := ?_) rfl rfl (by kernel_rfl) (by kernel_rfl) (by kernel_rfl) (fun _ _ _ h => h) (by rfl) (by assumption) ?_ ?_; rotate_left; · (intro w hSw; go_simp; (try with_reducible rfl)))
        (try simp only [Act.put, List.setIfInBounds_toArray, List.set_cons_zero, List.set_cons_succ])
        (refine take_on 2 (some 33) (v := ?_) rfl rfl (by kernel_rfl) (by kernel_rfl) (by kernel_rfl) (fun _ _ _ h => h) (by rfl) (by assumption) ?_ ?_; rotate_left; · (intro w hSw; go_simp; (try with_reducible rfl)))
        (try simp only [Act.put, List.setIfInBounds_toArray, List.set_cons_zero, List.set_cons_succ])
        (refine take_on 3 (some 34) (v := ?_) rfl rfl (by kernel_rfl) (by kernel_rfl) (by kernel_rfl) (fun _ _ _ h => h) (by rfl) (by assumption) ?_ ?_; rotate_left; · (intro w hSw; go_simp; (try with_reducible rfl)))
        (try simp only [Act.put, List.setIfInBounds_toArray, List.set_cons_zero, List.set_cons_succ])
        (refine take_on 4 (some 35) (v := ?_) rfl rfl (by kernel_rfl) (by kernel_rfl) (by kernel_rfl) (fun _ _ _ h => h) (by rfl) (by assumption) ?_ ?_; rotate_left; · (intro w hSw; (try dsimp only at hSw); have b_ := Blk.chg_ hpb3 hSw hbn; obtain ⟨d0, d1, d2, d3⟩ := PgB.head b_; go_simp; (try with_reducible rfl)))
        (try simp only [Act.put, List.setIfInBounds_toArray, List.set_cons_zero, List.set_cons_succ])
        (refine take_on 5 (some 36) (v := ?_) rfl rfl (by kernel_rfl) (by kernel_rfl) (by kernel_rfl) (fun _ _ _ h => h) (by rfl) (by assumption) ?_ ?_; rotate_left; · (intro w hSw; go_simp; (try with_reducible rfl)))
        (try simp only [Act.put, List.setIfInBounds_toArray, List.set_cons_zero, List.set_cons_succ])
        (refine take_on 6 (some 37) (v := ?_) rfl rfl (by kernel_rfl) (by kernel_rfl) (by kernel_rfl) (fun _ _ _ h => h) (by rfl) (by assumption) ?_ ?_; rotate_left; · (intro w hSw; go_simp; (try with_reducible rfl)))
        (try simp only [Act.put, List.setIfInBounds_toArray, List.set_cons_zero, List.set_cons_succ])
        refine wpAnyH_ready (rs := [0, 7]) (by kernel_rfl) (by simp) ?_; refine AllReadyH.cons (o := _) rfl (fun K hK => ?_) (AllReadyH.cons (o := _) rfl (fun K hK => ?_) AllReadyH.nil)
        · go_simp
          refine hK.out _ _ (by (try dsimp only); exact (Chg.refl _ W3).drew) (fun hHeld => ?_)
          clear hK K
          (try dsimp only)
          (try simp only [Act.put, List.setIfInBounds_toArray, List.set_cons_zero, List.set_cons_succ])
          refine wpAnyH_ready (rs := [7]) (by kernel_rfl) (by simp) ?_; refine AllReadyH.cons (o := _) rfl (fun K hK => ?_) AllReadyH.nil
          go_simp
          refine hK.out _ _ (by (try dsimp only); exact (k4.weak (by simp))) (fun hHeld => ?_)
          clear hK K
          (try dsimp only)
          (try simp only [Act.put, List.setIfInBounds_toArray, List.set_cons_zero, List.set_cons_succ])
          refine wpAnyH_ready (rs := [8]) (by kernel_rfl) (by simp) ?_; refine AllReadyH.cons (o := _) rfl (fun K hK => ?_) AllReadyH.nil
          refine step_append_G (E := atE) (some 39) rfl rfl (.tmp 31) (.tmp 38) 54 rfl 70 (.agg #[.int .i64 0, .int .i64 0]) 16 Try.underlying54 At_info rfl (Value.slice A (lnkF kind to_ s.L pre).length c) (lnkF kind to_ s.L pre) rfl hown4 (some ⟨W3.heap.size, 0, none⟩) 1 1 [(p.f, (i : Int))] rfl hsrc4 rfl (by omega) (fun v' w5 ho5 hc5 hb5 => ?_)
          obtain ⟨A5, c5, rfl, _, _⟩ := ho5.form
          have hl5 : (lnkF kind to_ s.L pre ++ [(p.f, (i : Int))]).length = (lnkF kind to_ s.L pre).length + 1 := by simp
          rw [hl5] at ho5 hb5
          clear hl5
          have hk5 : Chg ((w.heap.size + 1 + 1) :: (Value.slice A (lnkF kind to_ s.L pre).length c).ownBlock.toList) W3 w5 := (k4.weak (by simp)).trans hc5 (fun i_ _ hm => List.mem_cons_of_mem _ hm)
          refine hK.out _ _ (by (try dsimp only); exact hk5) (fun hHeld => ?_)
          clear hK K
          (try dsimp only)
          (try simp only [Act.put, List.setIfInBounds_toArray, List.set_cons_zero, List.set_cons_succ])
          have hlb5 := (hlb3.chg_ k4 (by simp)).chg_ hc5 hlu
          have lc5 := hlb5.cell 0; have lf5 := hlb5.frozen 0
          simp only [List.getElem?_toArray, List.getElem?_cons_zero] at lc5
          refine wpAnyH_ready (rs := [9]) (by kernel_rfl) (by simp) ?_; refine AllReadyH.cons (o := _) rfl (fun K hK => ?_) AllReadyH.nil
          go_simp
          refine hK.out _ _ (by (try dsimp only); exact hk5.setCell (p := ⟨w.heap.size + 1 + 1, 0, none⟩) (by simp) _) (fun hHeld => ?_)
          clear hK K
          (try dsimp only)
          (try simp only [Act.put, List.setIfInBounds_toArray, List.set_cons_zero, List.set_cons_succ])
          refine wpAnyH_done (by kernel_rfl) ?_ _
          refine Only.normal ?_
          gi_wp2
          exact hfin _ _ _ (by simp) hk5 ho5 hb5 hlb5
        · go_simp
          refine hK.out _ _ (by (try dsimp only); exact (k4.weak (by simp))) (fun hHeld => ?_)
          clear hK K
          (try dsimp only)
          (try simp only [Act.put, List.setIfInBounds_toArray, List.set_cons_zero, List.set_cons_succ])
          refine wpAnyH_ready (rs := [0]) (by kernel_rfl) (by simp) ?_; refine AllReadyH.cons (o := _) rfl (fun K hK => ?_) AllReadyH.nil
          have lc4 := (hlb3.alloc (.cells #[.int .i64 p.f, .int .i64 i] 70)).cell 0
          simp only [List.getElem?_toArray, List.getElem?_cons_zero] at lc4
          replace k4 := ((Chg.refl [] W3).alloc (.cells #[.int .i64 p.f, .int .i64 i] 70)).drew
          replace hown4 := hown3.new k4
          replace hat4 := (Blk.new W3 70 #[.int .i64 p.f, .int .i64 i]).drew
          replace hsrc4 := (OwnG.lit (E := atE) (L := [(p.f, (i : Int))]) hat4 (by simp)).src
          go_simp
          refine hK.out _ _ (by (try dsimp only); exact (k4.weak (by simp))) (fun hHeld => ?_)
          clear hK K
          (try dsimp only)
          (try simp only [Act.put, List.setIfInBounds_toArray, List.set_cons_zero, List.set_cons_succ])
          refine wpAnyH_ready (rs := [8]) (by kernel_rfl) (by simp) ?_; refine AllReadyH.cons (o := _) rfl (fun K hK => ?_) AllReadyH.nil
          refine step_append_G (E := atE) (some 39) rfl rfl (.tmp 31) (.tmp 38) 54 rfl 70 (.agg #[.int .i64 0, .int .i64 0]) 16 Try.underlying54 At_info rfl (Value.slice A (lnkF kind to_ s.L pre).length c) (lnkF kind to_ s.L pre) rfl hown4 (some ⟨W3.heap.size, 0, none⟩) 1 1 [(p.f, (i : Int))] rfl hsrc4 rfl (by omega) (fun v' w5 ho5 hc5 hb5 => ?_)
          obtain ⟨A5, c5, rfl, _, _⟩ := ho5.form
          have hl5 : (lnkF kind to_ s.L pre ++ [(p.f, (i : Int))]).length = (lnkF kind to_ s.L pre).length + 1 := by simp
          rw [hl5] at ho5 hb5
          clear hl5
          have hk5 : Chg ((w.heap.size + 1 + 1) :: (Value.slice A (lnkF kind to_ s.L pre).length c).ownBlock.toList) W3 w5 := (k4.weak (by simp)).trans hc5 (fun i_ _ hm => List.mem_cons_of_mem _ hm)
          refine hK.out _ _ (by (try dsimp only); exact hk5) (fun hHeld => ?_)
          clear hK K
          (try dsimp only)
          (try simp only [Act.put, List.setIfInBounds_toArray, List.set_cons_zero, List.set_cons_succ])
          have hlb5 := (hlb3.chg_ k4 (by simp)).chg_ hc5 hlu
          have lc5 := hlb5.cell 0; have lf5 := hlb5.frozen 0
          simp only [List.getElem?_toArray, List.getElem?_cons_zero] at lc5
          refine wpAnyH_ready (rs := [9]) (by kernel_rfl) (by simp) ?_; refine AllReadyH.cons (o := _) rfl (fun K hK => ?_) AllReadyH.nil
          go_simp
          refine hK.out _ _ (by (try dsimp only); exact hk5.setCell (p := ⟨w.heap.size + 1 + 1, 0, none⟩) (by simp) _) (fun hHeld => ?_)
          clear hK K
          (try dsimp only)
          (try simp only [Act.put, List.setIfInBounds_toArray, List.set_cons_zero, List.set_cons_succ])
          refine wpAnyH_done (by kernel_rfl) ?_ _
          refine Only.normal ?_
          gi_wp2
          exact hfin _ _ _ (by simp) hk5 ho5 hb5 hlb5
  case done =>
    rintro D xs W2 hD rfl hI2 hK
    obtain ⟨u, hlb, hown, hug⟩ := hI2.hl
    have hc := hI2.ch
    rw [lnkF_all h.e8] at hown
    clear hI2
    obtain ⟨A, c, rfl, _, _⟩ := hown.form
    have c0 := hlb.cell 0
    simp only [List.getElem?_toArray, List.getElem?_cons_zero] at c0
    gi_wp2
    refine ⟨by simp, .inl ⟨_, _, rfl, run_takeDeferred hK, ?_⟩⟩
    have hgr := grownBy_putObj' W2 D (.deferred none)
    have hrr : ∀ r, some D = some r → ∃ o : Obj, W2.heap[r]? = some o ∧ o.isCells = false := fun r e => by cases e; exact ⟨_, hK, rfl⟩
    refine ⟨_, results_tmp rfl _ _ _, A, c, rfl, own_kept hown hgr hrr, hug, chg_kept hc hml hgr (fun r e => by cases e; exact ⟨hD, _, hK, rfl⟩)⟩
  case stop =>
    rintro D c pre W2 _ _ hx _
    exact hx.elim

set_option maxHeartbeats 400000 in
theorem Sparents_any {q hp hb n a m fp mp : Nat} {s : Sr} {FS B : List Nat} {v : Value} (p : Int) (w : World) (h : StX w q hp hb n a m s fp mp FS v B) (hN : s.L.length ≤ 256) :
    Calls Try.prog 31 #[.pointer (some ⟨q, 0, none⟩), .int .i64 p] w (LnkP (toldP 1 p s.L) w) := by
  have hL := Slinks_any 1 p w h hN
  clear h hN
  generalize toldP 1 p s.L = T at *
  go_enter Try.func31, Try.ntmps31
  go_wp2_with fail
  refine hL.mono ?_; rintro e w2 ⟨A, c, rfl, ho, hg, y⟩
  go_wp2_with fail
  go_ret
  exact ⟨A, c, rfl, ho, hg, y⟩
set_option maxHeartbeats 400000 in
theorem Sleaves_any {q hp hb n a m fp mp : Nat} {s : Sr} {FS B : List Nat} {v : Value} (p : Int) (w : World) (h : StX w q hp hb n a m s fp mp FS v B) (hN : s.L.length ≤ 256) :
    Calls Try.prog 33 #[.pointer (some ⟨q, 0, none⟩), .int .i64 p] w (LnkP (toldP 2 p s.L) w) := by
  have hL := Slinks_any 2 p w h hN
  clear h hN
  generalize toldP 2 p s.L = T at *
  go_enter Try.func33, Try.ntmps33
  go_wp2_with fail
  refine hL.mono ?_; rintro e w2 ⟨A, c, rfl, ho, hg, y⟩
  go_wp2_with fail
  go_ret
  exact ⟨A, c, rfl, ho, hg, y⟩

end Go.Proofs.Ytpmfooeifhhfkaa
