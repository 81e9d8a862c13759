/-
 StoreG, StoreH, StoreI in one text.
-/
import Derived.Test.YtmbgepafpcbakaaGreatDoorGS1K
namespace Go.Proofs.YtmbgepafpcbakaaGreatDoor
open Go.RowKit Go.Maps Go.Shelf
theorem flat_congr {α β : Type} {f g : α → List β} : ∀ {L : List α}, (∀ x ∈ L, f x = g x) → L.flatMap f = L.flatMap g
 | [], _ => rfl
 | x :: L, h => by rw [List.flatMap_cons, List.flatMap_cons, h x List.mem_cons_self, flat_congr fun y hy => h y (List.mem_cons_of_mem _ hy)]
theorem fin_range_val (n : Nat) : (List.finRange n).map Fin.val = List.range n := by
 apply List.ext_getElem
 ·simp
 intro i h1 h2; simp
theorem range8 {α : Type} (g : Nat → Nat → List α) : ∀ n, (List.range (8 * n)).flatMap (fun k => g (k / 8) (k % 8)) = (List.range n).flatMap fun j => (List.range 8).flatMap (g j)
 | 0 => rfl
 | n + 1 => by
  rw [show 8 * (n + 1) = 8 * n + 8 by omega, List.range_add, List.flatMap_append, range8 g n, show List.range (n + 1) = List.range n ++ [n] from List.range_succ, List.flatMap_append]
  congr 1
  rw [List.flatMap_map]
  simp only [List.flatMap_cons, List.flatMap_nil, List.append_nil]
  apply flat_congr
  intro i hi
  rw [List.mem_range] at hi
  rw [show (8 * n + i) / 8 = n by omega, show (8 * n + i) % 8 = i by omega]
theorem range_list {α β : Type} [Inhabited α] (f : α → List β) (L : List α) : (List.range L.length).flatMap (fun j => f (L.getD j default)) = L.flatMap f := by
 rw [← List.flatMap_map]
 congr 1
 apply List.ext_getElem
 ·simp
 intro i h1 h2
 have : i < L.length := by simpa using h2
 simp [List.getD_eq_getElem?_getD, this]
instance Pg.inh : Inhabited Pg := ⟨⟨0, ⟨0, 0, 0⟩, []⟩⟩
instance Slt.inh : Inhabited Slt := ⟨Slt.no⟩
theorem allI_flat {β : Type} (L : List Pg) (G : Pg → Nat → List β) : (allI L.length).flatMap (fun x => G (pgX L x) (x.val % 8)) = L.flatMap fun p => (List.range 8).flatMap (G p) := by
 have e : ∀ x : Ix8 L.length, G (pgX L x) (x.val % 8) = (fun k => G (L.getD (k / 8) default) (k % 8)) x.val := fun x => by
  have hx := x.isLt
  simp [pgX, List.getD_eq_getElem?_getD, show x.val / 8 < L.length by omega]
 have e2 : (allI L.length).flatMap (fun x => (fun k => G (L.getD (k / 8) default) (k % 8)) x.val) = ((allI L.length).map Fin.val).flatMap (fun k => G (L.getD (k / 8) default) (k % 8)) := by rw [List.flatMap_map]
 rw [flat_congr (fun x _ => e x), e2]
 unfold allI
 rw [fin_range_val, range8 (fun j i => G (L.getD j default) i) L.length]
 exact range_list (fun p => (List.range 8).flatMap (G p)) L
theorem toldF_flat (kind to_ f : Int) : ∀ (l : List Slt) (j : Nat), toldF kind to_ f j l = (List.range l.length).flatMap fun i => if (l.getD i default).kind = kind ∧ (l.getD i default).to_ = to_ then [(f, ((j + i : Nat) : Int))] else []
 | [], _ => rfl
 | x :: l, j => by
  rw [toldF, toldF_flat kind to_ f l (j + 1), List.length_cons, List.range_succ_eq_map, List.flatMap_cons, List.flatMap_map]
  congr 1
  apply flat_congr
  intro i _
  simp only [List.getD_cons_succ]
  rw [show j + 1 + i = j + (i + 1) by omega]
def slX (L : List Pg) (x : Ix8 L.length) : Slt := (pgX L x).s.getD (x.val % 8) default
def lnkF (kind to_ : Int) (L : List Pg) (pre : List (Ix8 L.length)) : List (Int × Int) := pre.flatMap fun x => if (slX L x).kind = kind ∧ (slX L x).to_ = to_ then [((pgX L x).f, ((x.val % 8 : Nat) : Int))] else []
theorem lnkF_all {L : List Pg} (h8 : ∀ p ∈ L, p.s.length = 8) (kind to_ : Int) : lnkF kind to_ L (allI L.length) = toldP kind to_ L := by
 unfold lnkF toldP
 have := allI_flat L (fun p i => if (p.s.getD i default).kind = kind ∧ (p.s.getD i default).to_ = to_ then [(p.f, ((i : Nat) : Int))] else [])
 unfold slX
 rw [this]
 apply flat_congr
 intro p hp
 rw [toldF_flat, h8 p hp]
 apply flat_congr
 intro i _
 rw [Nat.zero_add]
theorem lnkF_snoc (kind to_ : Int) (L : List Pg) (pre : List (Ix8 L.length)) (x : Ix8 L.length) : lnkF kind to_ L (pre ++ [x]) = lnkF kind to_ L pre ++ (if (slX L x).kind = kind ∧ (slX L x).to_ = to_ then [((pgX L x).f, ((x.val % 8 : Nat) : Int))] else []) := by
 unfold lnkF; rw [List.flatMap_append]; simp
theorem lnkF_len (kind to_ : Int) (L : List Pg) : ∀ pre : List (Ix8 L.length), (lnkF kind to_ L pre).length ≤ pre.length
 | [] => by simp [lnkF]
 | x :: pre => by
  have := lnkF_len kind to_ L pre
  unfold lnkF at this ⊢
  rw [List.flatMap_cons, List.length_append, List.length_cons]
  split
  ·simp only [List.length_cons, List.length_nil]; omega
  simp only [List.length_nil]; omega
def tldF (so : Ky → Bool) (L : List Pg) (pre : List (Ix8 L.length)) : List Int := pre.flatMap fun x => if x.val % 8 = 0 ∧ so (pgX L x).k = true then [(pgX L x).f] else []
theorem tldF_all (so : Ky → Bool) (L : List Pg) : tldF so L (allI L.length) = (L.filter fun p => so p.k).map Pg.f := by
 unfold tldF
 have := allI_flat L (fun p i => if i = 0 ∧ so p.k = true then [p.f] else [])
 rw [this]
 have e : ∀ p : Pg, ((List.range 8).flatMap fun i => if i = 0 ∧ so p.k = true then [p.f] else []) = if so p.k = true then [p.f] else [] := fun p => by
  rw [show List.range 8 = [0, 1, 2, 3, 4, 5, 6, 7] from rfl]
  by_cases h : so p.k = true <;> simp [h]
 rw [flat_congr (fun p _ => e p)]
 induction L with
 | nil => rfl
 | cons p L ih =>
  have ih' : (L.flatMap fun p => if so p.k = true then [p.f] else []) = (L.filter fun p => so p.k).map Pg.f := by
   clear ih this
   induction L with
   | nil => rfl
   | cons q L ih2 =>
    rw [List.flatMap_cons, List.filter_cons, ih2]
    by_cases h : so q.k = true <;> simp [h]
  rw [List.flatMap_cons, List.filter_cons, ih']
  by_cases h : so p.k = true <;> simp [h]
theorem tldF_snoc (so : Ky → Bool) (L : List Pg) (pre : List (Ix8 L.length)) (x : Ix8 L.length) : tldF so L (pre ++ [x]) = tldF so L pre ++ (if x.val % 8 = 0 ∧ so (pgX L x).k = true then [(pgX L x).f] else []) := by
 unfold tldF; rw [List.flatMap_append]; simp
theorem tldF_len (so : Ky → Bool) (L : List Pg) : ∀ pre : List (Ix8 L.length), (tldF so L pre).length ≤ pre.length
 | [] => by simp [tldF]
 | x :: pre => by
  have := tldF_len so L pre
  unfold tldF at this ⊢
  rw [List.flatMap_cons, List.length_append, List.length_cons]
  split
  ·simp only [List.length_cons, List.length_nil]; omega
  simp only [List.length_nil]; omega
def atE : Enc (Int × Int) := ⟨fun x => [.int .i64 x.1, .int .i64 x.2], 2, by decide, fun _ => rfl, fun x u hu => by
 simp only [List.mem_cons, List.not_mem_nil, or_false] at hu
 rcases hu with rfl | rfl <;> rfl⟩
theorem At_info : ((Tryz.prog.info? 104).map (fun i => (i.zero, i.size, i.bytes))) = some (some (.agg #[.int .i64 0, .int .i64 0]), 2, 16) := by kernel_rfl
attribute [local go_sem] Oper.semAt_some
structure LnkI (kb tb lb m1 : Nat) (kind to_ : Int) (L : List Pg) (w : World) (pre : List (Ix8 L.length)) (W : World) : Prop where
 hk : Blk W kb 3 #[.int .i64 kind]
 ht : Blk W tb 3 #[.int .i64 to_]
 hl : ∃ u, Blk W lb 74 #[u] ∧ OwnG atE W 104 u (lnkF kind to_ L pre) ∧ ∀ g ∈ u.ownBlock.toList, w.heap.size ≤ g
 ch : Chg [] w W
 lo : m1 ≤ W.heap.size
theorem LnkI.own {kb tb lb m1 : Nat} {kind to_ : Int} {L : List Pg} {w : World} {B : Nat} (hB : w.heap.size ≤ B) : OwnFrom B (LnkI kb tb lb m1 kind to_ L w) := by
 intro pre W W' row h hg hr
 have hr' := fun r e => (hr r e).2
 obtain ⟨u, h1, h2, h3⟩ := h.hl
 exact ⟨blk_kept h.hk hg hr', blk_kept h.ht hg hr', ⟨u, blk_kept h1 hg hr', own_kept h2 hg hr', h3⟩, chg_kept h.ch hB hg hr, Nat.le_trans h.lo hg.size⟩
def LnkP (T : List (Int × Int)) (w : World) (e : Ending) (w' : World) : Prop := ∃ A c, e = .returned (.slice A T.length c) ∧ OwnG atE w' 104 (.slice A T.length c) T ∧ (∀ g ∈ (Value.slice A T.length c).ownBlock.toList, w.heap.size ≤ g) ∧ Chg [] w w'
set_option maxRecDepth 100000 in
set_option maxHeartbeats 8000000 in
theorem Slinks_any {q hp hb n a m fp mp : Nat} {s : Sr} {FS B : List Nat} {v : Value} (kind to_ : Int) (w : World) (h : StX w q hp hb n a m s fp mp FS v B) (hN : s.L.length ≤ 256) :
  Calls Tryz.prog 219 #[.pointer (some ⟨q, 0, none⟩), .int .i64 kind, .int .i64 to_] w (LnkP (toldP kind to_ s.L) w) := by
 have hro : Fence.wide.round = none := rfl
 refine (callsIn_wide (n := 3)).1 ?_
 refine callsIn_of_wp_marks Tryz.func219 rfl trivial ?_ hro
 simp only [Tryz.ntmps219, List.size_toArray, List.length_cons, List.length_nil, Nat.reduceAdd, Nat.reduceSub, Array.replicate_succ, Array.replicate_zero, List.push_toArray, List.append_toArray, List.nil_append, List.cons_append]
 have k1 := ((Blk.new w 3 #[.int .i64 kind]).alloc (.cells #[.int .i64 to_] 3)).alloc (.cells #[.slice none 0 0] 74)
 have r1 := (Blk.new (w.alloc (.cells #[.int .i64 kind] 3)) 3 #[.int .i64 to_]).alloc (.cells #[.slice none 0 0] 74)
 have o1 := Blk.new ((w.alloc (.cells #[.int .i64 kind] 3)).alloc (.cells #[.int .i64 to_] 3)) 74 #[.slice none 0 0]
 rw [World.size_alloc] at r1
 rw [World.size_alloc, World.size_alloc] at o1
 have y1 := (((Chg.refl [] w).alloc (.cells #[.int .i64 kind] 3)).alloc (.cells #[.int .i64 to_] 3)).alloc (.cells #[.slice none 0 0] 74)
 gi_wp2
 generalize ((w.alloc (.cells #[.int .i64 kind] 3)).alloc (.cells #[.int .i64 to_] 3)).alloc (.cells #[.slice none 0 0] 74) = w1 at *
 (first | refine ⟨trivial, (fun hh => by cases hh), ?_⟩ | refine ⟨(fun hh => by cases hh), ?_⟩ | refine ⟨trivial, ?_⟩ | skip)
 refine (callsIn_wide.2 (slots_any q _)).mono ?_; rintro e w2 ⟨rfl, hw2⟩
 have y12 : Chg [] w1 w2 := by rw [hw2]; exact (Chg.refl [] w1).alloc _
 have b2 : Blk w2 w1.heap.size 47 #[.pointer (some ⟨q, 0, none⟩)] := by rw [hw2]; exact Blk.new _ _ _
 replace k1 := k1.chg_ y12 (by simp); replace r1 := r1.chg_ y12 (by simp); replace o1 := o1.chg_ y12 (by simp); replace y1 := y1.trans y12 (by simp)
 clear hw2 y12
 generalize w1.heap.size = bb at *
 have hI0 : LnkI w.heap.size (w.heap.size + 1) (w.heap.size + 1 + 1) w2.heap.size kind to_ s.L w [] w2 := ⟨k1, r1, ⟨_, o1, OwnG.none_ _ _, by intro g hg; simp [Value.ownBlock] at hg⟩, y1, Nat.le_refl _⟩
 have hml : w.heap.size ≤ w2.heap.size := y1.size
 clear k1 r1 o1
 gi_wp2
 refine wpIn_rangeFunc_ownG (a := _) hro (by decide) (gf := 166) (lb := #[.pointer (some ⟨bb, 0, none⟩)]) rfl trivial (enters_of Tryz.func166 (by kernel_rfl) rfl)
  (slots_stops (3 - 1) bb w w2 h y1 b2) KpS.t (KpS.b hml) (Below.refl _ _) (fun _ => rfl)
  (LnkI w.heap.size (w.heap.size + 1) (w.heap.size + 1 + 1) w2.heap.size kind to_ s.L w) (fun _ _ _ => False) (LnkI.own hml) (fun _ _ _ _ _ hs _ _ => hs) hI0
  (fun x => { tmps := #[.pointer (some ⟨q, 0, none⟩), .int .i64 kind, .int .i64 to_, undef, .pointer (some ⟨w.heap.size, 0, none⟩), .pointer (some ⟨w.heap.size + 1, 0, none⟩), .slice none 0 0, .pointer (some ⟨w.heap.size + 1 + 1, 0, none⟩), .pointer (some ⟨B.getD (x.val / 8) 0, 0, none⟩), .int .i64 ((x.val % 8 : Nat) : Int), undef, .pointer (some ⟨q, 0, none⟩), .func (.func 166) #[] #[.pointer (some ⟨bb, 0, none⟩)], .pointer (some ⟨B.getD (x.val / 8) 0, 0, none⟩), .int .i64 ((x.val % 8 : Nat) : Int), undef, undef, undef, undef, undef, undef, undef, undef, undef, undef, undef, undef, undef, undef, undef, undef, undef, undef, undef, undef, undef, undef, undef, undef, undef, undef], defers := [] }) ?assign ?body ?done ?stop
 case assign =>
  intro l x W K hK
  unfold encI
  gi_wp2
  exact hK
 case body =>
  rintro l pre x W hI hlt
  obtain ⟨b, hen, hpb0, hmem⟩ := h.pgx x
  have hgb : B.getD (x.val / 8) 0 = b := by unfold encI at hen; simpa using hen
  rw [hgb]
  have hpb : PgB W b (pgX s.L x) := Blk.chg_ hpb0 hI.ch (by simp)
  have hi8 : x.val % 8 < 8 := Nat.mod_lt _ (by decide)
  have hsx : (pgX s.L x).s[x.val % 8]? = some (slX s.L x) := by
   have h8 := h.e8 _ hmem
   unfold slX
   rw [List.getD_eq_getElem?_getD, List.getElem?_eq_getElem (by omega)]; rfl
  have hF := lnkF_snoc kind to_ s.L pre x
  have hFl := lnkF_len kind to_ s.L pre
  have hkb := hI.hk; have htb := hI.ht
  obtain ⟨u, hlb, hown, hug⟩ := hI.hl
  have hch := hI.ch; have hlo := hI.lo
  clear hI hpb0 hen hgb
  obtain ⟨s0, s1, s2, s3, s4⟩ := sltAt5 (hpb.slot hsx)
  clear hsx
  generalize slX s.L x = sl at *
  generalize pgX s.L x = p at *
  generalize x.val % 8 = i at *
  have hiz : (i : Int) < 8 := by omega
  obtain ⟨kd, to, ⟨rw_, ru, rx⟩⟩ := sl
  simp only at s0 s1 s2 s3 s4 hF
  have kc := (hkb.alloc (.cells #[.int .i64 kd, .int .i64 to, .bool rw_, .bool ru, .bool rx] 99)).cell 0
  have tc := (htb.alloc (.cells #[.int .i64 kd, .int .i64 to, .bool rw_, .bool ru, .bool rx] 99)).cell 0
  simp only [qA, qZ] at kc tc
  have hst1 := StpS.new (m := w.heap.size) ((Chg.refl [] W).alloc (.cells #[.int .i64 kd, .int .i64 to, .bool rw_, .bool ru, .bool rx] 99)) hch.size
  have hsame : ∀ t : List (Int × Int), lnkF kind to_ s.L pre = t → LnkI w.heap.size (w.heap.size + 1) (w.heap.size + 1 + 1) w2.heap.size kind to_ s.L w pre W → True := fun _ _ _ => trivial
  clear hsame
  cases h1 : (kd == kind) with
  | false =>
   have hkd : ¬ (kd = kind ∧ to = to_) := by simp at h1; intro e; exact h1 e.1
   rw [if_neg hkd, List.append_nil] at hF
   replace hF := Lib.hid hF
   clear hkd
   gi_wp2
   exact ⟨hst1.1.from _, hst1.2, hkb.alloc _, htb.alloc _, ⟨u, hlb.alloc _, by rw [hF.out]; exact hown.new ((Chg.refl [] W).alloc _), hug⟩, hch.alloc _, by rw [World.size_alloc]; omega⟩
  | true =>
   cases h2 : (to == to_) with
   | false =>
    have hkd : ¬ (kd = kind ∧ to = to_) := by simp at h2; intro e; exact h2 e.2
    rw [if_neg hkd, List.append_nil] at hF
    replace hF := Lib.hid hF
    clear hkd
    gi_wp2
    exact ⟨hst1.1.from _, hst1.2, hkb.alloc _, htb.alloc _, ⟨u, hlb.alloc _, by rw [hF.out]; exact hown.new ((Chg.refl [] W).alloc _), hug⟩, hch.alloc _, by rw [World.size_alloc]; omega⟩
   | true =>
    have hkd : kd = kind ∧ to = to_ := by simp at h1 h2; exact ⟨h1, h2⟩
    rw [if_pos hkd] at hF
    replace hF := Lib.hid hF
    clear hkd
    gi_wp2
    have y3 := (Chg.refl [] W).alloc (.cells #[.int .i64 kd, .int .i64 to, .bool rw_, .bool ru, .bool rx] 99)
    have hpb3 : PgB (W.alloc (.cells #[.int .i64 kd, .int .i64 to, .bool rw_, .bool ru, .bool rx] 99)) b p := Blk.chg_ hpb y3 (by simp)
    have hlb3 := hlb.chg_ y3 (by simp)
    have hown3 := hown.new y3
    have hkb3 := hkb.chg_ y3 (by simp); have htb3 := htb.chg_ y3 (by simp)
    have hch3 := hch.trans y3 (by simp)
    have hlo3 := Nat.le_trans hlo y3.size
    clear hpb hlb hown hkb htb y3 kc tc s0 s1 s2 s3 s4 h1 h2 hch hlo
    generalize W.alloc (.cells #[.int .i64 kd, .int .i64 to, .bool rw_, .bool ru, .bool rx] 99) = W3 at *
    have hlu : w.heap.size + 1 + 1 ∉ u.ownBlock.toList := fun hm => by
     obtain ⟨cs, hb_⟩ := own_cells hown3 _ hm
     exact Blk.type_ne hb_ hlb3 (by decide) rfl
    have hbu : ∀ g ∈ u.ownBlock.toList, ∃ cs, Blk W3 g 104 cs := own_cells hown3
    obtain ⟨A, c, rfl, hnil, _⟩ := hown3.form
    have hlc := hlb3.cell 0; have hlf := hlb3.frozen 0
    simp only [qA, qZ] at hlc
    have hbn : b ∉ (w.heap.size + 1 + 1) :: (Value.slice A (lnkF kind to_ s.L pre).length c).ownBlock.toList := fun hm => by
     simp only [List.mem_cons] at hm
     rcases hm with hm | hm
     ·exact Blk.type_ne hpb3 hlb3 (by decide) hm
     obtain ⟨cs, hb_⟩ := hbu _ hm; exact Blk.type_ne hpb3 hb_ (by decide) rfl
    have k4 := (((Chg.refl [] W3).drew).alloc (.cells #[.int .i64 p.f, .int .i64 i] 104))
    have hown4 := hown3.new k4
    have hat4 := Blk.new W3.drew 104 #[.int .i64 p.f, .int .i64 i]
    have hfin : ∀ (v5 : Value) (w5 : World) (z : Nat), z = W3.heap.size + 1 → Chg ((w.heap.size + 1 + 1) :: (Value.slice A (lnkF kind to_ s.L pre).length c).ownBlock.toList) W3 w5 → OwnG atE w5 104 v5 (lnkF kind to_ s.L pre ++ [(p.f, (i : Int))]) → (v5.ownBlock = (Value.slice A (lnkF kind to_ s.L pre).length c).ownBlock ∨ v5.ownBlock = some z) → Blk w5 (w.heap.size + 1 + 1) 74 #[(Value.slice A (lnkF kind to_ s.L pre).length c)] →
      KeepsFrom w2.heap.size W (w5.setCell ⟨w.heap.size + 1 + 1, 0, none⟩ v5) ∧ KpS w.heap.size W (w5.setCell ⟨w.heap.size + 1 + 1, 0, none⟩ v5) ∧ LnkI w.heap.size (w.heap.size + 1) (w.heap.size + 1 + 1) w2.heap.size kind to_ s.L w (pre ++ [x]) (w5.setCell ⟨w.heap.size + 1 + 1, 0, none⟩ v5) := by
     intro v5 w5 z hz hk5 ho5 hb5 hlb5
     have hkc := hk5.setCell (p := ⟨w.heap.size + 1 + 1, 0, none⟩) (by simp) v5
     have hst2 := StpS.of_chg (m := w.heap.size) hkc hch3.size (by
      intro j hj
      simp only [List.mem_cons] at hj
      rcases hj with rfl | hj
      ·exact ⟨by omega, _, _, hlb3, by decide⟩
      obtain ⟨cs, hb_⟩ := hbu _ hj; exact ⟨hug _ hj, _, _, hb_, by decide⟩)
     have hst := hst1.t hst2
     have hnk : ∀ g, g ∈ ((w.heap.size + 1 + 1) :: (Value.slice A (lnkF kind to_ s.L pre).length c).ownBlock.toList) → g ≠ w.heap.size ∧ g ≠ w.heap.size + 1 := fun g hg => by
      simp only [List.mem_cons] at hg
      rcases hg with rfl | hg
      ·omega
      obtain ⟨cs, hb_⟩ := hbu _ hg; exact ⟨Blk.type_ne hb_ hkb3 (by decide), Blk.type_ne hb_ htb3 (by decide)⟩
     refine ⟨hst.1.from _, hst.2, hkb3.chg_ hkc (fun hm => (hnk _ hm).1 rfl), htb3.chg_ hkc (fun hm => (hnk _ hm).2 rfl), ⟨_, hlb5.set_ 0 _, ?_, ?_⟩, hst2.2.chg hch3 rfl, Nat.le_trans hlo3 hkc.size⟩
     ·rw [hF.out]
      refine ho5.chg ((Chg.refl [w.heap.size + 1 + 1] w5).setCell (p := ⟨w.heap.size + 1 + 1, 0, none⟩) (by simp) _) (fun g hg hm => ?_)
      simp only [List.mem_singleton] at hm; subst hm
      obtain ⟨cs, hb_⟩ := own_cells ho5 _ hg; exact Blk.type_ne hb_ hlb5 (by decide) rfl
     intro g hg
     rcases hb5 with e | e
     ·rw [e] at hg; exact hug g hg
     rw [e] at hg; simp at hg; subst hg; have := hch3.size; omega
    have hsrc4 : Src (W3.drew.alloc (.cells #[.int .i64 p.f, .int .i64 i] 104)) atE.k (some ⟨W3.heap.size, 0, none⟩) 1 1 (atE.all [(p.f, (i : Int))]) := (OwnG.lit (E := atE) (L := [(p.f, (i : Int))]) hat4 (by simp)).src
    refine wpIn_region_only (S := fun w' => Chg ((w.heap.size + 1 + 1) :: (Value.slice A (lnkF kind to_ s.L pre).length c).ownBlock.toList) W3 w') (by kernel_rfl) (by kernel_rfl) ((Chg.refl _ W3).drew) (fun hHeld => ?_)
    refine tq 1 32 _ ?_
    refine tq 2 33 _ ?_
    refine tq 3 34 _ ?_
    (refine tk 4 35 ?_ ?_ ?_; rotate_left; · (intro w hSw; (try dsimp only at hSw); have b_ := Blk.chg_ hpb3 hSw hbn; obtain ⟨d0, d1, d2, d3⟩ := PgB.head b_; go_simp; (try with_reducible rfl)))
    (try simp only [Act.put, qI, qO, qU])
    refine tq 5 36 _ ?_
    refine tq 6 37 _ ?_
    (try simp only [Act.put, qI, qO, qU])
    refine wpAnyH_ready (rs := [0, 7]) (by kernel_rfl) (by simp) ?_; refine AllReadyH.cons (o := _) rfl (fun K hK => ?_) (AllReadyH.cons (o := _) rfl (fun K hK => ?_) AllReadyH.nil)
    ·go_simp
     refine hK.out _ _ (by (try dsimp only); exact (Chg.refl _ W3).drew) (fun hHeld => ?_)
     clear hK K
     (try dsimp only)
     (try simp only [Act.put, qI, qO, qU])
     refine rdy 7 fun K hK => ?_
     go_simp
     refine hK.out _ _ (by (try dsimp only); exact (k4.weak (by simp))) (fun hHeld => ?_)
     clear hK K
     (try dsimp only)
     (try simp only [Act.put, qI, qO, qU])
     refine rdy 8 fun K hK => ?_
     refine step_append_G (E := atE) (some 39) rfl rfl (.tmp 31) (.tmp 38) 74 rfl 104 (.agg #[.int .i64 0, .int .i64 0]) 16 Tryz.underlying74 At_info rfl (Value.slice A (lnkF kind to_ s.L pre).length c) (lnkF kind to_ s.L pre) rfl hown4 (some ⟨W3.heap.size, 0, none⟩) 1 1 [(p.f, (i : Int))] rfl hsrc4 rfl (by omega) (fun v' w5 ho5 hc5 hb5 => ?_)
     obtain ⟨A5, c5, rfl, _, _⟩ := ho5.form
     have hl5 : (lnkF kind to_ s.L pre ++ [(p.f, (i : Int))]).length = (lnkF kind to_ s.L pre).length + 1 := by simp
     rw [hl5] at ho5 hb5
     clear hl5
     have hk5 : Chg ((w.heap.size + 1 + 1) :: (Value.slice A (lnkF kind to_ s.L pre).length c).ownBlock.toList) W3 w5 := (k4.weak (by simp)).trans hc5 (fun i_ _ hm => List.mem_cons_of_mem _ hm)
     refine hK.out _ _ (by (try dsimp only); exact hk5) (fun hHeld => ?_)
     clear hK K
     (try dsimp only)
     (try simp only [Act.put, qI, qO, qU])
     have hlb5 := (hlb3.chg_ k4 (by simp)).chg_ hc5 hlu
     have lc5 := hlb5.cell 0; have lf5 := hlb5.frozen 0
     simp only [qA, qZ] at lc5
     refine rdy 9 fun K hK => ?_
     go_simp
     refine hK.out _ _ (by (try dsimp only); exact hk5.setCell (p := ⟨w.heap.size + 1 + 1, 0, none⟩) (by simp) _) (fun hHeld => ?_)
     clear hK K
     (try dsimp only)
     (try simp only [Act.put, qI, qO, qU])
     refine wpAnyH_done (by kernel_rfl) ?_ _
     refine Only.normal ?_
     gi_wp2
     exact hfin _ _ _ (by simp) hk5 ho5 hb5 hlb5
    go_simp
    refine hK.out _ _ (by (try dsimp only); exact (k4.weak (by simp))) (fun hHeld => ?_)
    clear hK K
    (try dsimp only)
    (try simp only [Act.put, qI, qO, qU])
    refine rdy 0 fun K hK => ?_
    have lc4 := (hlb3.alloc (.cells #[.int .i64 p.f, .int .i64 i] 104)).cell 0
    simp only [qA, qZ] at lc4
    replace k4 := ((Chg.refl [] W3).alloc (.cells #[.int .i64 p.f, .int .i64 i] 104)).drew
    replace hown4 := hown3.new k4
    replace hat4 := (Blk.new W3 104 #[.int .i64 p.f, .int .i64 i]).drew
    replace hsrc4 := (OwnG.lit (E := atE) (L := [(p.f, (i : Int))]) hat4 (by simp)).src
    go_simp
    refine hK.out _ _ (by (try dsimp only); exact (k4.weak (by simp))) (fun hHeld => ?_)
    clear hK K
    (try dsimp only)
    (try simp only [Act.put, qI, qO, qU])
    refine rdy 8 fun K hK => ?_
    refine step_append_G (E := atE) (some 39) rfl rfl (.tmp 31) (.tmp 38) 74 rfl 104 (.agg #[.int .i64 0, .int .i64 0]) 16 Tryz.underlying74 At_info rfl (Value.slice A (lnkF kind to_ s.L pre).length c) (lnkF kind to_ s.L pre) rfl hown4 (some ⟨W3.heap.size, 0, none⟩) 1 1 [(p.f, (i : Int))] rfl hsrc4 rfl (by omega) (fun v' w5 ho5 hc5 hb5 => ?_)
    obtain ⟨A5, c5, rfl, _, _⟩ := ho5.form
    have hl5 : (lnkF kind to_ s.L pre ++ [(p.f, (i : Int))]).length = (lnkF kind to_ s.L pre).length + 1 := by simp
    rw [hl5] at ho5 hb5
    clear hl5
    have hk5 : Chg ((w.heap.size + 1 + 1) :: (Value.slice A (lnkF kind to_ s.L pre).length c).ownBlock.toList) W3 w5 := (k4.weak (by simp)).trans hc5 (fun i_ _ hm => List.mem_cons_of_mem _ hm)
    refine hK.out _ _ (by (try dsimp only); exact hk5) (fun hHeld => ?_)
    clear hK K
    (try dsimp only)
    (try simp only [Act.put, qI, qO, qU])
    have hlb5 := (hlb3.chg_ k4 (by simp)).chg_ hc5 hlu
    have lc5 := hlb5.cell 0; have lf5 := hlb5.frozen 0
    simp only [qA, qZ] at lc5
    refine rdy 9 fun K hK => ?_
    go_simp
    refine hK.out _ _ (by (try dsimp only); exact hk5.setCell (p := ⟨w.heap.size + 1 + 1, 0, none⟩) (by simp) _) (fun hHeld => ?_)
    clear hK K
    (try dsimp only)
    (try simp only [Act.put, qI, qO, qU])
    refine wpAnyH_done (by kernel_rfl) ?_ _
    refine Only.normal ?_
    gi_wp2
    exact hfin _ _ _ (by simp) hk5 ho5 hb5 hlb5
 case done =>
  rintro D xs W2 hD rfl hI2 hK
  obtain ⟨u, hlb, hown, hug⟩ := hI2.hl
  have hc := hI2.ch
  rw [lnkF_all h.e8] at hown
  clear hI2
  obtain ⟨A, c, rfl, _, _⟩ := hown.form
  have c0 := hlb.cell 0
  simp only [qA, qZ] at c0
  gi_wp2
  refine ⟨by simp, .inl ⟨_, _, rfl, run_takeDeferred hK, ?_⟩⟩
  have hgr := grownBy_putObj' W2 D (.deferred none)
  have hrr : ∀ r, some D = some r → ∃ o : Obj, W2.heap[r]? = some o ∧ o.isCells = false := fun r e => by cases e; exact ⟨_, hK, rfl⟩
  refine ⟨_, results_tmp rfl _ _ _, A, c, rfl, own_kept hown hgr hrr, hug, chg_kept hc hml hgr (fun r e => by cases e; exact ⟨hD, _, hK, rfl⟩)⟩
 rintro D c pre W2 _ _ hx _
 exact hx.elim
set_option maxHeartbeats 400000 in
theorem Sparents_any {q hp hb n a m fp mp : Nat} {s : Sr} {FS B : List Nat} {v : Value} (p : Int) (w : World) (h : StX w q hp hb n a m s fp mp FS v B) (hN : s.L.length ≤ 256) :
  Calls Tryz.prog 179 #[.pointer (some ⟨q, 0, none⟩), .int .i64 p] w (LnkP (toldP 1 p s.L) w) := by
 have hL := Slinks_any 1 p w h hN
 clear h hN
 generalize toldP 1 p s.L = T at *
 go_enter Tryz.func179, Tryz.ntmps179
 go_wp2_with fail
 refine hL.mono ?_; rintro e w2 ⟨A, c, rfl, ho, hg, y⟩
 go_wp2_with fail
 go_ret
 exact ⟨A, c, rfl, ho, hg, y⟩
set_option maxHeartbeats 400000 in
theorem Sleaves_any {q hp hb n a m fp mp : Nat} {s : Sr} {FS B : List Nat} {v : Value} (p : Int) (w : World) (h : StX w q hp hb n a m s fp mp FS v B) (hN : s.L.length ≤ 256) :
  Calls Tryz.prog 183 #[.pointer (some ⟨q, 0, none⟩), .int .i64 p] w (LnkP (toldP 2 p s.L) w) := by
 have hL := Slinks_any 2 p w h hN
 clear h hN
 generalize toldP 2 p s.L = T at *
 go_enter Tryz.func183, Tryz.ntmps183
 go_wp2_with fail
 refine hL.mono ?_; rintro e w2 ⟨A, c, rfl, ho, hg, y⟩
 go_wp2_with fail
 go_ret
 exact ⟨A, c, rfl, ho, hg, y⟩
attribute [local go_sem] Oper.semAt_some
set_option maxHeartbeats 400000 in
theorem SAll1_any (k : Ky) (w : World) : Calls Tryz.prog 76 #[.agg k.cs] w fun e w' => e = .returned (.bool true) ∧ Chg [] w w' := by
 unfold Ky.cs
 go_enter Tryz.func76, Tryz.ntmps76
 go_wp2
 go_ret
 exact ⟨rfl, (Chg.refl [] w).alloc _⟩
def allB : Ky → Bool := fun _ => true
def ofB (g : Int) (k : Ky) : Bool := decide (k.role = 0 ∧ k.g = g)
set_option maxHeartbeats 1000000 in
theorem SOf1_any (k : Ky) (gb : Nat) (g : Int) (w : World) (hg : Blk w gb 3 #[.int .i64 g]) : Calls Tryz.prog 168 #[.agg k.cs, .pointer (some ⟨gb, 0, none⟩)] w fun e w' => e = .returned (.bool (ofB g k)) ∧ Chg [] w w' := by
 have c0 := (hg.alloc (.cells k.cs 85)).cell 0
 simp only [qA, qZ] at c0
 have hof : ofB g k = decide (k.role = 0 ∧ k.g = g) := rfl
 generalize ofB g k = z at *
 obtain ⟨kg, kl, kr⟩ := k
 simp only [Ky.cs] at *
 cases h1 : (kr == 0) with
 | false =>
  have h2 : z = false := by rw [hof, decide_eq_false_iff_not]; simp at h1; exact fun e => h1 e.1
  subst h2
  clear hof
  go_enter Tryz.func168, Tryz.ntmps168
  go_wp2_with fail
  go_ret
  exact ⟨rfl, (Chg.refl [] w).alloc _⟩
 | true =>
  have h2 : z = (kg == g) := by rw [hof, Bool.eq_iff_iff, decide_eq_true_eq, beq_iff_eq]; simp at h1; simp [h1]
  subst h2
  clear hof
  go_enter Tryz.func168, Tryz.ntmps168
  go_wp2_with fail
  go_ret
  exact ⟨rfl, (Chg.refl [] w).alloc _⟩
structure TldI (fb lb m1 : Nat) (fv : Value) (so : Ky → Bool) (L : List Pg) (w : World) (pre : List (Ix8 L.length)) (W : World) : Prop where
 hf : Blk W fb 134 #[fv]
 hl : ∃ u, Blk W lb 43 #[u] ∧ OwnG (numE .i64) W 3 u (tldF so L pre) ∧ ∀ g ∈ u.ownBlock.toList, w.heap.size ≤ g
 ch : Chg [] w W
 lo : m1 ≤ W.heap.size
theorem TldI.own {fb lb m1 : Nat} {fv : Value} {so : Ky → Bool} {L : List Pg} {w : World} {B : Nat} (hB : w.heap.size ≤ B) : OwnFrom B (TldI fb lb m1 fv so L w) := by
 intro pre W W' row h hg hr
 have hr' := fun r e => (hr r e).2
 obtain ⟨u, h1, h2, h3⟩ := h.hl
 exact ⟨blk_kept h.hf hg hr', ⟨u, blk_kept h1 hg hr', own_kept h2 hg hr', h3⟩, chg_kept h.ch hB hg hr, Nat.le_trans h.lo hg.size⟩
def NumP (T : List Int) (w : World) (e : Ending) (w' : World) : Prop := ∃ A c, e = .returned (.slice A T.length c) ∧ OwnG (numE .i64) w' 3 (.slice A T.length c) T ∧ (∀ g ∈ (Value.slice A T.length c).ownBlock.toList, w.heap.size ≤ g) ∧ Chg [] w w'
set_option maxRecDepth 100000 in
set_option maxHeartbeats 8000000 in
theorem Stold_all {q hp hb n a m fp mp : Nat} {s : Sr} {FS B : List Nat} {v : Value} (w : World) (h : StX w q hp hb n a m s fp mp FS v B) (hN : s.L.length ≤ 256) :
  Calls Tryz.prog 75 #[.pointer (some ⟨q, 0, none⟩), .func (.func 76) #[] #[]] w (NumP ((s.L.filter fun p => allB p.k).map Pg.f) w) := by
 have hro : Fence.wide.round = none := rfl
 obtain ⟨T, hT⟩ : ∃ T, (s.L.filter fun p => allB p.k).map Pg.f = T := ⟨_, rfl⟩
 rw [hT]
 replace hT := Lib.hid hT
 refine (callsIn_wide (n := 3)).1 ?_
 refine callsIn_of_wp_marks Tryz.func75 rfl trivial ?_ hro
 simp only [Tryz.ntmps75, List.size_toArray, List.length_cons, List.length_nil, Nat.reduceAdd, Nat.reduceSub, Array.replicate_succ, Array.replicate_zero, List.push_toArray, List.append_toArray, List.nil_append, List.cons_append]
 have k1 := (Blk.new w 134 #[.func (.func 76) #[] #[]]).alloc (.cells #[.slice none 0 0] 43)
 have o1 := Blk.new (w.alloc (.cells #[.func (.func 76) #[] #[]] 134)) 43 #[.slice none 0 0]
 rw [World.size_alloc] at o1
 have y1 := ((Chg.refl [] w).alloc (.cells #[.func (.func 76) #[] #[]] 134)).alloc (.cells #[.slice none 0 0] 43)
 gi_wp2
 generalize ((w.alloc (.cells #[.func (.func 76) #[] #[]] 134)).alloc (.cells #[.slice none 0 0] 43)) = w1 at *
 (first | refine ⟨trivial, (fun hh => by cases hh), ?_⟩ | refine ⟨(fun hh => by cases hh), ?_⟩ | refine ⟨trivial, ?_⟩ | skip)
 refine (callsIn_wide.2 (slots_any q _)).mono ?_; rintro e w2 ⟨rfl, hw2⟩
 have y12 : Chg [] w1 w2 := by rw [hw2]; exact (Chg.refl [] w1).alloc _
 have b2 : Blk w2 w1.heap.size 47 #[.pointer (some ⟨q, 0, none⟩)] := by rw [hw2]; exact Blk.new _ _ _
 replace k1 := k1.chg_ y12 (by simp); replace o1 := o1.chg_ y12 (by simp); replace y1 := y1.trans y12 (by simp)
 clear hw2 y12
 generalize w1.heap.size = bb at *
 have hI0 : TldI w.heap.size (w.heap.size + 1) w2.heap.size (.func (.func 76) #[] #[]) allB s.L w [] w2 := ⟨k1, ⟨_, o1, OwnG.none_ _ _, by intro g hg; simp [Value.ownBlock] at hg⟩, y1, Nat.le_refl _⟩
 have hml : w.heap.size ≤ w2.heap.size := y1.size
 clear k1 o1
 gi_wp2
 refine wpIn_rangeFunc_ownG (a := _) hro (by decide) (gf := 166) (lb := #[.pointer (some ⟨bb, 0, none⟩)]) rfl trivial (enters_of Tryz.func166 (by kernel_rfl) rfl)
  (slots_stops (3 - 1) bb w w2 h y1 b2) KpS.t (KpS.b hml) (Below.refl _ _) (fun _ => rfl)
  (TldI w.heap.size (w.heap.size + 1) w2.heap.size (.func (.func 76) #[] #[]) allB s.L w) (fun _ _ _ => False) (TldI.own hml) (fun _ _ _ _ _ hs _ _ => hs) hI0
  (fun x => { tmps := #[.pointer (some ⟨q, 0, none⟩), .func (.func 76) #[] #[], undef, .pointer (some ⟨w.heap.size, 0, none⟩), .slice none 0 0, .pointer (some ⟨w.heap.size + 1, 0, none⟩), .pointer (some ⟨B.getD (x.val / 8) 0, 0, none⟩), .int .i64 ((x.val % 8 : Nat) : Int), .pointer (some ⟨q, 0, none⟩), .func (.func 166) #[] #[.pointer (some ⟨bb, 0, none⟩)], .pointer (some ⟨B.getD (x.val / 8) 0, 0, none⟩), .int .i64 ((x.val % 8 : Nat) : Int), undef, undef, undef, undef, undef, undef, undef, undef, undef, undef, undef, undef, undef, undef, undef, undef, undef, undef], defers := [] }) ?assign ?body ?done ?stop
 case assign =>
  intro l x W K hK
  unfold encI
  gi_wp2
  exact hK
 case body =>
  rintro l pre x W hI hlt
  obtain ⟨b, hen, hpb0, hmem⟩ := h.pgx x
  have hgb : B.getD (x.val / 8) 0 = b := by unfold encI at hen; simpa using hen
  rw [hgb]
  have hpb : PgB W b (pgX s.L x) := Blk.chg_ hpb0 hI.ch (by simp)
  have hF := tldF_snoc allB s.L pre x
  have hFl := tldF_len allB s.L pre
  have hfb := hI.hf
  obtain ⟨u, hlb, hown, hug⟩ := hI.hl
  have hch := hI.ch; have hlo := hI.lo
  have hcall : ∀ (k : Ky) (W' : World), Chg [] W W' → Calls Tryz.prog 76 #[.agg k.cs] W' fun e w' => e = .returned (.bool (allB k)) ∧ Chg [] W' w' := fun k W' _ => SAll1_any k W'
  clear hI hpb0 hen hgb
  generalize pgX s.L x = p at *
  have hkk := hcall p.k
  have hkeq : allB p.k = allB p.k := rfl
  obtain ⟨z, hz⟩ : ∃ z, allB p.k = z := ⟨_, rfl⟩
  rw [hz] at hkk hF
  simp only [Ky.cs] at hkk
  clear hcall hz hkeq
  generalize x.val % 8 = i at *
  cases h1 : ((i : Int) == 0) with
  | false =>
   have hkd : ¬ (i = 0 ∧ z = true) := by simp at h1; intro e; omega
   rw [if_neg hkd, List.append_nil] at hF
   replace hF := Lib.hid hF
   clear hkd hkk
   gi_wp2
   refine wpIn_region_only (S := fun w' => Chg [] W w') (by kernel_rfl) (by kernel_rfl) ((Chg.refl [] W).drew) (fun hHeld => ?_)
   refine tq 0 12 _ ?_
   refine tq 1 13 _ ?_
   refine tq 2 14 _ ?_
   (try simp only [Act.put, qI, qO, qU])
   (refine tko 3 15 ?_)
   (refine tko 4 16 ?_)
   (refine tko 5 17 ?_)
   (refine tko 6 18 ?_)
   (try simp only [Act.put, qI, qO, qU])
   (refine tko 7 19 ?_)
   (refine tko 8 20 ?_)
   refine tq 9 21 _ ?_
   (try simp only [Act.put, qI, qO, qU])
   refine wpAnyH_done (by kernel_rfl) ?_ _
   refine Only.normal ?_
   gi_wp2
   have hst1 := StpS.new (m := w.heap.size) ((Chg.refl [] W).drew) hch.size
   exact ⟨hst1.1.from _, hst1.2, hfb.chg_ ((Chg.refl [] W).drew) (by simp), ⟨u, hlb.chg_ ((Chg.refl [] W).drew) (by simp), by rw [hF.out]; exact hown.new ((Chg.refl [] W).drew), hug⟩, hch.trans ((Chg.refl [] W).drew) (by simp), Nat.le_trans hlo (Chg.size ((Chg.refl [] W).drew))⟩
  | true =>
   obtain rfl : i = 0 := by simp at h1; exact h1
   cases z with
   | false =>
    rw [if_neg (by simp), List.append_nil] at hF
    replace hF := Lib.hid hF
    gi_wp2
    refine wpIn_region_only (S := fun w' => Chg [] W w') (by kernel_rfl) (by kernel_rfl) ((Chg.refl [] W).drew) (fun hHeld => ?_)
    refine tq 0 12 _ ?_
    refine tq 1 13 _ ?_
    (try simp only [Act.put, qI, qO, qU])
    refine tq 2 14 _ ?_
    (refine tk 3 15 ?_ ?_ ?_; rotate_left; · (intro w hSw; (try dsimp only at hSw); have b_ := hfb.chg_ hSw (by simp); have d0 := b_.cell 0; simp only [qA, qZ] at d0; go_simp; (try with_reducible rfl)))
    refine tq 4 16 _ ?_
    refine tq 5 17 _ ?_
    (try simp only [Act.put, qI, qO, qU])
    refine tq 6 18 _ ?_
    (refine tk 7 19 ?_ ?_ ?_; rotate_left; · (intro w hSw; (try dsimp only at hSw); have b_ := Blk.chg_ hpb hSw (by simp); obtain ⟨d0, d1, d2, d3⟩ := PgB.head b_; go_simp; (try with_reducible rfl)))
    (try simp only [Act.put, qI, qO, qU])
    refine rdy 8 fun K hK => ?_
    go_simp
    (refine (hkk _ hHeld).mono ?_; rintro e u1 ⟨rfl, y1_⟩)
    refine hK.out _ _ (by (try dsimp only); exact hHeld.trans y1_ (by simp)) (fun hHeld => ?_)
    clear hK K
    (try simp only [Act.put, qI, qO, qU])
    refine tq 9 21 _ ?_
    (try simp only [Act.put, qI, qO, qU])
    refine wpAnyH_done (by kernel_rfl) ?_ _
    refine Only.normal ?_
    gi_wp2
    have yy := (Chg.refl [] W).drew.trans y1_ (by simp)
    have hst1 := StpS.new (m := w.heap.size) yy hch.size
    exact ⟨hst1.1.from _, hst1.2, hfb.chg_ yy (by simp), ⟨u, hlb.chg_ yy (by simp), by rw [hF.out]; exact hown.new yy, hug⟩, hch.trans yy (by simp), Nat.le_trans hlo (Chg.size yy)⟩
   | true =>
    rw [if_pos (by simp)] at hF
    replace hF := Lib.hid hF
    gi_wp2
    refine wpIn_region_only (S := fun w' => Chg [] W w') (by kernel_rfl) (by kernel_rfl) ((Chg.refl [] W).drew) (fun hHeld => ?_)
    refine tq 0 12 _ ?_
    refine tq 1 13 _ ?_
    refine tq 2 14 _ ?_
    (try simp only [Act.put, qI, qO, qU])
    (refine tk 3 15 ?_ ?_ ?_; rotate_left; · (intro w hSw; (try dsimp only at hSw); have b_ := hfb.chg_ hSw (by simp); have d0 := b_.cell 0; simp only [qA, qZ] at d0; go_simp; (try with_reducible rfl)))
    refine tq 4 16 _ ?_
    refine tq 5 17 _ ?_
    refine tq 6 18 _ ?_
    (try simp only [Act.put, qI, qO, qU])
    (refine tk 7 19 ?_ ?_ ?_; rotate_left; · (intro w hSw; (try dsimp only at hSw); have b_ := Blk.chg_ hpb hSw (by simp); obtain ⟨d0, d1, d2, d3⟩ := PgB.head b_; go_simp; (try with_reducible rfl)))
    (try simp only [Act.put, qI, qO, qU])
    refine rdy 8 fun K hK => ?_
    go_simp
    (refine (hkk _ hHeld).mono ?_; rintro e u1 ⟨rfl, y1_⟩)
    refine hK.out _ _ (by (try dsimp only); exact hHeld.trans y1_ (by simp)) (fun hHeld => ?_)
    clear hK K
    (try simp only [Act.put, qI, qO, qU])
    refine tq 9 21 _ ?_
    (try simp only [Act.put, qI, qO, qU])
    refine wpAnyH_done (by kernel_rfl) ?_ _
    refine Only.normal ?_
    gi_wp2
    have y3 := (Chg.refl [] W).drew.trans y1_ (by simp)
    have hst1 := StpS.new (m := w.heap.size) y3 hch.size
    have hpb3 : PgB u1 b p := Blk.chg_ hpb y3 (by simp)
    have hlb3 := hlb.chg_ y3 (by simp)
    have hown3 := hown.new y3
    have hfb3 := hfb.chg_ y3 (by simp)
    have hch3 := hch.trans y3 (by simp)
    have hlo3 := Nat.le_trans hlo y3.size
    clear hpb hlb hown hfb y3 hkk hch hlo hHeld y1_
    have hlu : w.heap.size + 1 ∉ u.ownBlock.toList := fun hm => by
     obtain ⟨cs, hb_⟩ := own_cells hown3 _ hm
     exact Blk.type_ne hb_ hlb3 (by decide) rfl
    have hbu : ∀ g ∈ u.ownBlock.toList, ∃ cs, Blk u1 g 3 cs := own_cells hown3
    obtain ⟨A, c, rfl, hnil, _⟩ := hown3.form
    have hlc := hlb3.cell 0; have hlf := hlb3.frozen 0
    simp only [qA, qZ] at hlc
    have hbn : b ∉ (w.heap.size + 1) :: (Value.slice A (tldF allB s.L pre).length c).ownBlock.toList := fun hm => by
     simp only [List.mem_cons] at hm
     rcases hm with hm | hm
     ·exact Blk.type_ne hpb3 hlb3 (by decide) hm
     obtain ⟨cs, hb_⟩ := hbu _ hm; exact Blk.type_ne hpb3 hb_ (by decide) rfl
    have k4 := (((Chg.refl [] u1).drew).alloc (.cells #[.int .i64 p.f] 3))
    have hown4 := hown3.new k4
    have hat4 := Blk.new u1.drew 3 #[.int .i64 p.f]
    have hsrc4 : Src (u1.drew.alloc (.cells #[.int .i64 p.f] 3)) (numE .i64).k (some ⟨u1.heap.size, 0, none⟩) 1 1 ((numE .i64).all [p.f]) := (OwnG.lit (E := numE .i64) (L := [p.f]) hat4 (by simp)).src
    have hfin : ∀ (v5 : Value) (w5 : World) (z : Nat), z = u1.heap.size + 1 → Chg ((w.heap.size + 1) :: (Value.slice A (tldF allB s.L pre).length c).ownBlock.toList) u1 w5 → OwnG (numE .i64) w5 3 v5 ((tldF allB s.L pre) ++ [p.f]) → (v5.ownBlock = (Value.slice A (tldF allB s.L pre).length c).ownBlock ∨ v5.ownBlock = some z) → Blk w5 (w.heap.size + 1) 43 #[(Value.slice A (tldF allB s.L pre).length c)] →
      KeepsFrom w2.heap.size W (w5.setCell ⟨w.heap.size + 1, 0, none⟩ v5) ∧ KpS w.heap.size W (w5.setCell ⟨w.heap.size + 1, 0, none⟩ v5) ∧ TldI w.heap.size (w.heap.size + 1) w2.heap.size (.func (.func 76) #[] #[]) allB s.L w (pre ++ [x]) (w5.setCell ⟨w.heap.size + 1, 0, none⟩ v5) := by
     intro v5 w5 z hz hk5 ho5 hb5 hlb5
     have hkc := hk5.setCell (p := ⟨w.heap.size + 1, 0, none⟩) (by simp) v5
     have hst2 := StpS.of_chg (m := w.heap.size) hkc hch3.size (by
      intro j hj
      simp only [List.mem_cons] at hj
      rcases hj with rfl | hj
      ·exact ⟨by omega, _, _, hlb3, by decide⟩
      obtain ⟨cs, hb_⟩ := hbu _ hj; exact ⟨hug _ hj, _, _, hb_, by decide⟩)
     have hst := hst1.t hst2
     have hnk : ∀ g : Nat, g ∈ ((w.heap.size + 1) :: (Value.slice A (tldF allB s.L pre).length c).ownBlock.toList) → g ≠ w.heap.size := fun g hg => by
      simp only [List.mem_cons] at hg
      rcases hg with rfl | hg
      ·omega
      obtain ⟨cs, hb_⟩ := hbu _ hg; exact Blk.type_ne hb_ hfb3 (by decide)
     refine ⟨hst.1.from _, hst.2, hfb3.chg_ hkc (fun hm => hnk _ hm rfl), ⟨_, hlb5.set_ 0 _, ?_, ?_⟩, hst2.2.chg hch3 rfl, Nat.le_trans hlo3 hkc.size⟩
     ·rw [hF.out]
      refine ho5.chg ((Chg.refl [w.heap.size + 1] w5).setCell (p := ⟨w.heap.size + 1, 0, none⟩) (by simp) _) (fun g hg hm => ?_)
      simp only [List.mem_singleton] at hm; subst hm
      obtain ⟨cs, hb_⟩ := own_cells ho5 _ hg; exact Blk.type_ne hb_ hlb5 (by decide) rfl
     intro g hg
     rcases hb5 with e | e
     ·rw [e] at hg; exact hug g hg
     rw [e] at hg; simp at hg; subst hg; have := hch3.size; omega
    refine wpIn_region_only (S := fun w' => Chg ((w.heap.size + 1) :: (Value.slice A (tldF allB s.L pre).length c).ownBlock.toList) u1 w') (by kernel_rfl) (by kernel_rfl) ((Chg.refl _ u1).drew) (fun hHeld => ?_)
    refine tq 1 23 _ ?_
    refine tq 2 24 _ ?_
    refine tq 3 25 _ ?_
    (refine tk 4 26 ?_ ?_ ?_; rotate_left; · (intro w hSw; (try dsimp only at hSw); have b_ := Blk.chg_ hpb3 hSw hbn; obtain ⟨d0, d1, d2, d3⟩ := PgB.head b_; go_simp; (try with_reducible rfl)))
    (try simp only [Act.put, qI, qO, qU])
    refine wpAnyH_ready (rs := [0, 5]) (by kernel_rfl) (by simp) ?_; refine AllReadyH.cons (o := _) rfl (fun K hK => ?_) (AllReadyH.cons (o := _) rfl (fun K hK => ?_) AllReadyH.nil)
    ·go_simp
     refine hK.out _ _ (by (try dsimp only); exact (Chg.refl _ u1).drew) (fun hHeld => ?_)
     clear hK K
     (try dsimp only)
     (try simp only [Act.put, qI, qO, qU])
     refine rdy 5 fun K hK => ?_
     go_simp
     refine hK.out _ _ (by (try dsimp only); exact (k4.weak (by simp))) (fun hHeld => ?_)
     clear hK K
     (try dsimp only)
     (try simp only [Act.put, qI, qO, qU])
     refine rdy 6 fun K hK => ?_
     refine step_append_G (E := numE .i64) (some 28) rfl rfl (.tmp 22) (.tmp 27) 43 rfl 3 (.int .i64 0) 8 Tryz.underlying43 int_info rfl (Value.slice A (tldF allB s.L pre).length c) (tldF allB s.L pre) rfl hown4 (some ⟨u1.heap.size, 0, none⟩) 1 1 [p.f] rfl hsrc4 rfl (by omega) (fun v' w5 ho5 hc5 hb5 => ?_)
     obtain ⟨A5, c5, rfl, _, _⟩ := ho5.form
     have hl5 : ((tldF allB s.L pre) ++ [p.f]).length = (tldF allB s.L pre).length + 1 := by simp
     rw [hl5] at ho5 hb5
     clear hl5
     have hk5 : Chg ((w.heap.size + 1) :: (Value.slice A (tldF allB s.L pre).length c).ownBlock.toList) u1 w5 := (k4.weak (by simp)).trans hc5 (fun i_ _ hm => List.mem_cons_of_mem _ hm)
     refine hK.out _ _ (by (try dsimp only); exact hk5) (fun hHeld => ?_)
     clear hK K
     (try dsimp only)
     (try simp only [Act.put, qI, qO, qU])
     have hlb5 := (hlb3.chg_ k4 (by simp)).chg_ hc5 hlu
     have lc5 := hlb5.cell 0; have lf5 := hlb5.frozen 0
     simp only [qA, qZ] at lc5
     refine rdy 7 fun K hK => ?_
     go_simp
     refine hK.out _ _ (by (try dsimp only); exact hk5.setCell (p := ⟨w.heap.size + 1, 0, none⟩) (by simp) _) (fun hHeld => ?_)
     clear hK K
     (try dsimp only)
     (try simp only [Act.put, qI, qO, qU])
     refine wpAnyH_done (by kernel_rfl) ?_ _
     refine Only.normal ?_
     gi_wp2
     exact hfin _ _ _ (by simp) hk5 ho5 hb5 hlb5
    go_simp
    refine hK.out _ _ (by (try dsimp only); exact (k4.weak (by simp))) (fun hHeld => ?_)
    clear hK K
    (try dsimp only)
    (try simp only [Act.put, qI, qO, qU])
    refine rdy 0 fun K hK => ?_
    have lc4 := (hlb3.alloc (.cells #[.int .i64 p.f] 3)).cell 0
    simp only [qA, qZ] at lc4
    replace k4 := ((Chg.refl [] u1).alloc (.cells #[.int .i64 p.f] 3)).drew
    replace hown4 := hown3.new k4
    replace hat4 := (Blk.new u1 3 #[.int .i64 p.f]).drew
    replace hsrc4 := (OwnG.lit (E := numE .i64) (L := [p.f]) hat4 (by simp)).src
    go_simp
    refine hK.out _ _ (by (try dsimp only); exact (k4.weak (by simp))) (fun hHeld => ?_)
    clear hK K
    (try dsimp only)
    (try simp only [Act.put, qI, qO, qU])
    refine rdy 6 fun K hK => ?_
    refine step_append_G (E := numE .i64) (some 28) rfl rfl (.tmp 22) (.tmp 27) 43 rfl 3 (.int .i64 0) 8 Tryz.underlying43 int_info rfl (Value.slice A (tldF allB s.L pre).length c) (tldF allB s.L pre) rfl hown4 (some ⟨u1.heap.size, 0, none⟩) 1 1 [p.f] rfl hsrc4 rfl (by omega) (fun v' w5 ho5 hc5 hb5 => ?_)
    obtain ⟨A5, c5, rfl, _, _⟩ := ho5.form
    have hl5 : ((tldF allB s.L pre) ++ [p.f]).length = (tldF allB s.L pre).length + 1 := by simp
    rw [hl5] at ho5 hb5
    clear hl5
    have hk5 : Chg ((w.heap.size + 1) :: (Value.slice A (tldF allB s.L pre).length c).ownBlock.toList) u1 w5 := (k4.weak (by simp)).trans hc5 (fun i_ _ hm => List.mem_cons_of_mem _ hm)
    refine hK.out _ _ (by (try dsimp only); exact hk5) (fun hHeld => ?_)
    clear hK K
    (try dsimp only)
    (try simp only [Act.put, qI, qO, qU])
    have hlb5 := (hlb3.chg_ k4 (by simp)).chg_ hc5 hlu
    have lc5 := hlb5.cell 0; have lf5 := hlb5.frozen 0
    simp only [qA, qZ] at lc5
    refine rdy 7 fun K hK => ?_
    go_simp
    refine hK.out _ _ (by (try dsimp only); exact hk5.setCell (p := ⟨w.heap.size + 1, 0, none⟩) (by simp) _) (fun hHeld => ?_)
    clear hK K
    (try dsimp only)
    (try simp only [Act.put, qI, qO, qU])
    refine wpAnyH_done (by kernel_rfl) ?_ _
    refine Only.normal ?_
    gi_wp2
    exact hfin _ _ _ (by simp) hk5 ho5 hb5 hlb5
 case done =>
  rintro D xs W2 hD rfl hI2 hK
  obtain ⟨u, hlb, hown, hug⟩ := hI2.hl
  have hc := hI2.ch
  rw [tldF_all, hT.out] at hown
  clear hI2
  obtain ⟨A, c, rfl, _, _⟩ := hown.form
  have c0 := hlb.cell 0
  simp only [qA, qZ] at c0
  gi_wp2
  refine ⟨by simp, .inl ⟨_, _, rfl, run_takeDeferred hK, ?_⟩⟩
  have hgr := grownBy_putObj' W2 D (.deferred none)
  have hrr : ∀ r, some D = some r → ∃ o : Obj, W2.heap[r]? = some o ∧ o.isCells = false := fun r e => by cases e; exact ⟨_, hK, rfl⟩
  refine ⟨_, results_tmp rfl _ _ _, A, c, rfl, own_kept hown hgr hrr, hug, chg_kept hc hml hgr (fun r e => by cases e; exact ⟨hD, _, hK, rfl⟩)⟩
 rintro D c pre W2 _ _ hx _
 exact hx.elim
set_option maxRecDepth 100000 in
set_option maxHeartbeats 8000000 in
theorem Stold_of {q hp hb n a m fp mp : Nat} {s : Sr} {FS B : List Nat} {v : Value} (gb : Nat) (gg : Int) (w : World) (h : StX w q hp hb n a m s fp mp FS v B) (hN : s.L.length ≤ 256) (hgb0 : Blk w gb 3 #[.int .i64 gg]) :
  Calls Tryz.prog 75 #[.pointer (some ⟨q, 0, none⟩), .func (.func 168) #[] #[.pointer (some ⟨gb, 0, none⟩)]] w (NumP ((s.L.filter fun p => (ofB gg) p.k).map Pg.f) w) := by
 have hro : Fence.wide.round = none := rfl
 obtain ⟨T, hT⟩ : ∃ T, (s.L.filter fun p => (ofB gg) p.k).map Pg.f = T := ⟨_, rfl⟩
 rw [hT]
 replace hT := Lib.hid hT
 refine (callsIn_wide (n := 3)).1 ?_
 refine callsIn_of_wp_marks Tryz.func75 rfl trivial ?_ hro
 simp only [Tryz.ntmps75, List.size_toArray, List.length_cons, List.length_nil, Nat.reduceAdd, Nat.reduceSub, Array.replicate_succ, Array.replicate_zero, List.push_toArray, List.append_toArray, List.nil_append, List.cons_append]
 have k1 := (Blk.new w 134 #[.func (.func 168) #[] #[.pointer (some ⟨gb, 0, none⟩)]]).alloc (.cells #[.slice none 0 0] 43)
 have o1 := Blk.new (w.alloc (.cells #[.func (.func 168) #[] #[.pointer (some ⟨gb, 0, none⟩)]] 134)) 43 #[.slice none 0 0]
 rw [World.size_alloc] at o1
 have y1 := ((Chg.refl [] w).alloc (.cells #[.func (.func 168) #[] #[.pointer (some ⟨gb, 0, none⟩)]] 134)).alloc (.cells #[.slice none 0 0] 43)
 gi_wp2
 generalize ((w.alloc (.cells #[.func (.func 168) #[] #[.pointer (some ⟨gb, 0, none⟩)]] 134)).alloc (.cells #[.slice none 0 0] 43)) = w1 at *
 (first | refine ⟨trivial, (fun hh => by cases hh), ?_⟩ | refine ⟨(fun hh => by cases hh), ?_⟩ | refine ⟨trivial, ?_⟩ | skip)
 refine (callsIn_wide.2 (slots_any q _)).mono ?_; rintro e w2 ⟨rfl, hw2⟩
 have y12 : Chg [] w1 w2 := by rw [hw2]; exact (Chg.refl [] w1).alloc _
 have b2 : Blk w2 w1.heap.size 47 #[.pointer (some ⟨q, 0, none⟩)] := by rw [hw2]; exact Blk.new _ _ _
 replace k1 := k1.chg_ y12 (by simp); replace o1 := o1.chg_ y12 (by simp); replace y1 := y1.trans y12 (by simp)
 clear hw2 y12
 generalize w1.heap.size = bb at *
 have hI0 : TldI w.heap.size (w.heap.size + 1) w2.heap.size (.func (.func 168) #[] #[.pointer (some ⟨gb, 0, none⟩)]) (ofB gg) s.L w [] w2 := ⟨k1, ⟨_, o1, OwnG.none_ _ _, by intro g hg; simp [Value.ownBlock] at hg⟩, y1, Nat.le_refl _⟩
 have hml : w.heap.size ≤ w2.heap.size := y1.size
 clear k1 o1
 gi_wp2
 refine wpIn_rangeFunc_ownG (a := _) hro (by decide) (gf := 166) (lb := #[.pointer (some ⟨bb, 0, none⟩)]) rfl trivial (enters_of Tryz.func166 (by kernel_rfl) rfl)
  (slots_stops (3 - 1) bb w w2 h y1 b2) KpS.t (KpS.b hml) (Below.refl _ _) (fun _ => rfl)
  (TldI w.heap.size (w.heap.size + 1) w2.heap.size (.func (.func 168) #[] #[.pointer (some ⟨gb, 0, none⟩)]) (ofB gg) s.L w) (fun _ _ _ => False) (TldI.own hml) (fun _ _ _ _ _ hs _ _ => hs) hI0
  (fun x => { tmps := #[.pointer (some ⟨q, 0, none⟩), .func (.func 168) #[] #[.pointer (some ⟨gb, 0, none⟩)], undef, .pointer (some ⟨w.heap.size, 0, none⟩), .slice none 0 0, .pointer (some ⟨w.heap.size + 1, 0, none⟩), .pointer (some ⟨B.getD (x.val / 8) 0, 0, none⟩), .int .i64 ((x.val % 8 : Nat) : Int), .pointer (some ⟨q, 0, none⟩), .func (.func 166) #[] #[.pointer (some ⟨bb, 0, none⟩)], .pointer (some ⟨B.getD (x.val / 8) 0, 0, none⟩), .int .i64 ((x.val % 8 : Nat) : Int), undef, undef, undef, undef, undef, undef, undef, undef, undef, undef, undef, undef, undef, undef, undef, undef, undef, undef], defers := [] }) ?assign ?body ?done ?stop
 case assign =>
  intro l x W K hK
  unfold encI
  gi_wp2
  exact hK
 case body =>
  rintro l pre x W hI hlt
  obtain ⟨b, hen, hpb0, hmem⟩ := h.pgx x
  have hgb : B.getD (x.val / 8) 0 = b := by unfold encI at hen; simpa using hen
  rw [hgb]
  have hpb : PgB W b (pgX s.L x) := Blk.chg_ hpb0 hI.ch (by simp)
  have hF := tldF_snoc (ofB gg) s.L pre x
  have hFl := tldF_len (ofB gg) s.L pre
  have hfb := hI.hf
  obtain ⟨u, hlb, hown, hug⟩ := hI.hl
  have hch := hI.ch; have hlo := hI.lo
  have hcall : ∀ (k : Ky) (W' : World), Chg [] W W' → Calls Tryz.prog 168 #[.agg k.cs, .pointer (some ⟨gb, 0, none⟩)] W' fun e w' => e = .returned (.bool (ofB gg k)) ∧ Chg [] W' w' := fun k W' y => SOf1_any k gb gg W' ((hgb0.chg_ hI.ch (by simp)).chg_ y (by simp))
  clear hI hpb0 hen hgb
  generalize pgX s.L x = p at *
  have hkk := hcall p.k
  have hkeq : (ofB gg) p.k = (ofB gg) p.k := rfl
  obtain ⟨z, hz⟩ : ∃ z, (ofB gg) p.k = z := ⟨_, rfl⟩
  rw [hz] at hkk hF
  simp only [Ky.cs] at hkk
  clear hcall hz hkeq
  generalize x.val % 8 = i at *
  cases h1 : ((i : Int) == 0) with
  | false =>
   have hkd : ¬ (i = 0 ∧ z = true) := by simp at h1; intro e; omega
   rw [if_neg hkd, List.append_nil] at hF
   replace hF := Lib.hid hF
   clear hkd hkk
   gi_wp2
   refine wpIn_region_only (S := fun w' => Chg [] W w') (by kernel_rfl) (by kernel_rfl) ((Chg.refl [] W).drew) (fun hHeld => ?_)
   refine tq 0 12 _ ?_
   (try simp only [Act.put, qI, qO, qU])
   refine tq 1 13 _ ?_
   refine tq 2 14 _ ?_
   (refine tko 3 15 ?_)
   (refine tko 4 16 ?_)
   (try simp only [Act.put, qI, qO, qU])
   (refine tko 5 17 ?_)
   (refine tko 6 18 ?_)
   (refine tko 7 19 ?_)
   (refine tko 8 20 ?_)
   (try simp only [Act.put, qI, qO, qU])
   refine tq 9 21 _ ?_
   (try simp only [Act.put, qI, qO, qU])
   refine wpAnyH_done (by kernel_rfl) ?_ _
   refine Only.normal ?_
   gi_wp2
   have hst1 := StpS.new (m := w.heap.size) ((Chg.refl [] W).drew) hch.size
   exact ⟨hst1.1.from _, hst1.2, hfb.chg_ ((Chg.refl [] W).drew) (by simp), ⟨u, hlb.chg_ ((Chg.refl [] W).drew) (by simp), by rw [hF.out]; exact hown.new ((Chg.refl [] W).drew), hug⟩, hch.trans ((Chg.refl [] W).drew) (by simp), Nat.le_trans hlo (Chg.size ((Chg.refl [] W).drew))⟩
  | true =>
   obtain rfl : i = 0 := by simp at h1; exact h1
   cases z with
   | false =>
    rw [if_neg (by simp), List.append_nil] at hF
    replace hF := Lib.hid hF
    gi_wp2
    refine wpIn_region_only (S := fun w' => Chg [] W w') (by kernel_rfl) (by kernel_rfl) ((Chg.refl [] W).drew) (fun hHeld => ?_)
    refine tq 0 12 _ ?_
    refine tq 1 13 _ ?_
    refine tq 2 14 _ ?_
    (refine tk 3 15 ?_ ?_ ?_; rotate_left; · (intro w hSw; (try dsimp only at hSw); have b_ := hfb.chg_ hSw (by simp); have d0 := b_.cell 0; simp only [qA, qZ] at d0; go_simp; (try with_reducible rfl)))
    (try simp only [Act.put, qI, qO, qU])
    refine tq 4 16 _ ?_
    refine tq 5 17 _ ?_
    refine tq 6 18 _ ?_
    (refine tk 7 19 ?_ ?_ ?_; rotate_left; · (intro w hSw; (try dsimp only at hSw); have b_ := Blk.chg_ hpb hSw (by simp); obtain ⟨d0, d1, d2, d3⟩ := PgB.head b_; go_simp; (try with_reducible rfl)))
    (try simp only [Act.put, qI, qO, qU])
    refine rdy 8 fun K hK => ?_
    go_simp
    (refine (hkk _ hHeld).mono ?_; rintro e u1 ⟨rfl, y1_⟩)
    refine hK.out _ _ (by (try dsimp only); exact hHeld.trans y1_ (by simp)) (fun hHeld => ?_)
    clear hK K
    (try simp only [Act.put, qI, qO, qU])
    refine tq 9 21 _ ?_
    (try simp only [Act.put, qI, qO, qU])
    refine wpAnyH_done (by kernel_rfl) ?_ _
    refine Only.normal ?_
    gi_wp2
    have yy := (Chg.refl [] W).drew.trans y1_ (by simp)
    have hst1 := StpS.new (m := w.heap.size) yy hch.size
    exact ⟨hst1.1.from _, hst1.2, hfb.chg_ yy (by simp), ⟨u, hlb.chg_ yy (by simp), by rw [hF.out]; exact hown.new yy, hug⟩, hch.trans yy (by simp), Nat.le_trans hlo (Chg.size yy)⟩
   | true =>
    rw [if_pos (by simp)] at hF
    replace hF := Lib.hid hF
    gi_wp2
    refine wpIn_region_only (S := fun w' => Chg [] W w') (by kernel_rfl) (by kernel_rfl) ((Chg.refl [] W).drew) (fun hHeld => ?_)
    refine tq 0 12 _ ?_
    (try simp only [Act.put, qI, qO, qU])
    refine tq 1 13 _ ?_
    refine tq 2 14 _ ?_
    (refine tk 3 15 ?_ ?_ ?_; rotate_left; · (intro w hSw; (try dsimp only at hSw); have b_ := hfb.chg_ hSw (by simp); have d0 := b_.cell 0; simp only [qA, qZ] at d0; go_simp; (try with_reducible rfl)))
    refine tq 4 16 _ ?_
    (try simp only [Act.put, qI, qO, qU])
    refine tq 5 17 _ ?_
    refine tq 6 18 _ ?_
    (refine tk 7 19 ?_ ?_ ?_; rotate_left; · (intro w hSw; (try dsimp only at hSw); have b_ := Blk.chg_ hpb hSw (by simp); obtain ⟨d0, d1, d2, d3⟩ := PgB.head b_; go_simp; (try with_reducible rfl)))
    (try simp only [Act.put, qI, qO, qU])
    refine rdy 8 fun K hK => ?_
    go_simp
    (refine (hkk _ hHeld).mono ?_; rintro e u1 ⟨rfl, y1_⟩)
    refine hK.out _ _ (by (try dsimp only); exact hHeld.trans y1_ (by simp)) (fun hHeld => ?_)
    clear hK K
    (try simp only [Act.put, qI, qO, qU])
    refine tq 9 21 _ ?_
    (try simp only [Act.put, qI, qO, qU])
    refine wpAnyH_done (by kernel_rfl) ?_ _
    refine Only.normal ?_
    gi_wp2
    have y3 := (Chg.refl [] W).drew.trans y1_ (by simp)
    have hst1 := StpS.new (m := w.heap.size) y3 hch.size
    have hpb3 : PgB u1 b p := Blk.chg_ hpb y3 (by simp)
    have hlb3 := hlb.chg_ y3 (by simp)
    have hown3 := hown.new y3
    have hfb3 := hfb.chg_ y3 (by simp)
    have hch3 := hch.trans y3 (by simp)
    have hlo3 := Nat.le_trans hlo y3.size
    clear hpb hlb hown hfb y3 hkk hch hlo hHeld y1_
    have hlu : w.heap.size + 1 ∉ u.ownBlock.toList := fun hm => by
     obtain ⟨cs, hb_⟩ := own_cells hown3 _ hm
     exact Blk.type_ne hb_ hlb3 (by decide) rfl
    have hbu : ∀ g ∈ u.ownBlock.toList, ∃ cs, Blk u1 g 3 cs := own_cells hown3
    obtain ⟨A, c, rfl, hnil, _⟩ := hown3.form
    have hlc := hlb3.cell 0; have hlf := hlb3.frozen 0
    simp only [qA, qZ] at hlc
    have hbn : b ∉ (w.heap.size + 1) :: (Value.slice A (tldF (ofB gg) s.L pre).length c).ownBlock.toList := fun hm => by
     simp only [List.mem_cons] at hm
     rcases hm with hm | hm
     ·exact Blk.type_ne hpb3 hlb3 (by decide) hm
     obtain ⟨cs, hb_⟩ := hbu _ hm; exact Blk.type_ne hpb3 hb_ (by decide) rfl
    have k4 := (((Chg.refl [] u1).drew).alloc (.cells #[.int .i64 p.f] 3))
    have hown4 := hown3.new k4
    have hat4 := Blk.new u1.drew 3 #[.int .i64 p.f]
    have hsrc4 : Src (u1.drew.alloc (.cells #[.int .i64 p.f] 3)) (numE .i64).k (some ⟨u1.heap.size, 0, none⟩) 1 1 ((numE .i64).all [p.f]) := (OwnG.lit (E := numE .i64) (L := [p.f]) hat4 (by simp)).src
    have hfin : ∀ (v5 : Value) (w5 : World) (z : Nat), z = u1.heap.size + 1 → Chg ((w.heap.size + 1) :: (Value.slice A (tldF (ofB gg) s.L pre).length c).ownBlock.toList) u1 w5 → OwnG (numE .i64) w5 3 v5 ((tldF (ofB gg) s.L pre) ++ [p.f]) → (v5.ownBlock = (Value.slice A (tldF (ofB gg) s.L pre).length c).ownBlock ∨ v5.ownBlock = some z) → Blk w5 (w.heap.size + 1) 43 #[(Value.slice A (tldF (ofB gg) s.L pre).length c)] →
      KeepsFrom w2.heap.size W (w5.setCell ⟨w.heap.size + 1, 0, none⟩ v5) ∧ KpS w.heap.size W (w5.setCell ⟨w.heap.size + 1, 0, none⟩ v5) ∧ TldI w.heap.size (w.heap.size + 1) w2.heap.size (.func (.func 168) #[] #[.pointer (some ⟨gb, 0, none⟩)]) (ofB gg) s.L w (pre ++ [x]) (w5.setCell ⟨w.heap.size + 1, 0, none⟩ v5) := by
     intro v5 w5 z hz hk5 ho5 hb5 hlb5
     have hkc := hk5.setCell (p := ⟨w.heap.size + 1, 0, none⟩) (by simp) v5
     have hst2 := StpS.of_chg (m := w.heap.size) hkc hch3.size (by
      intro j hj
      simp only [List.mem_cons] at hj
      rcases hj with rfl | hj
      ·exact ⟨by omega, _, _, hlb3, by decide⟩
      obtain ⟨cs, hb_⟩ := hbu _ hj; exact ⟨hug _ hj, _, _, hb_, by decide⟩)
     have hst := hst1.t hst2
     have hnk : ∀ g : Nat, g ∈ ((w.heap.size + 1) :: (Value.slice A (tldF (ofB gg) s.L pre).length c).ownBlock.toList) → g ≠ w.heap.size := fun g hg => by
      simp only [List.mem_cons] at hg
      rcases hg with rfl | hg
      ·omega
      obtain ⟨cs, hb_⟩ := hbu _ hg; exact Blk.type_ne hb_ hfb3 (by decide)
     refine ⟨hst.1.from _, hst.2, hfb3.chg_ hkc (fun hm => hnk _ hm rfl), ⟨_, hlb5.set_ 0 _, ?_, ?_⟩, hst2.2.chg hch3 rfl, Nat.le_trans hlo3 hkc.size⟩
     ·rw [hF.out]
      refine ho5.chg ((Chg.refl [w.heap.size + 1] w5).setCell (p := ⟨w.heap.size + 1, 0, none⟩) (by simp) _) (fun g hg hm => ?_)
      simp only [List.mem_singleton] at hm; subst hm
      obtain ⟨cs, hb_⟩ := own_cells ho5 _ hg; exact Blk.type_ne hb_ hlb5 (by decide) rfl
     intro g hg
     rcases hb5 with e | e
     ·rw [e] at hg; exact hug g hg
     rw [e] at hg; simp at hg; subst hg; have := hch3.size; omega
    refine wpIn_region_only (S := fun w' => Chg ((w.heap.size + 1) :: (Value.slice A (tldF (ofB gg) s.L pre).length c).ownBlock.toList) u1 w') (by kernel_rfl) (by kernel_rfl) ((Chg.refl _ u1).drew) (fun hHeld => ?_)
    refine tq 1 23 _ ?_
    refine tq 2 24 _ ?_
    (try simp only [Act.put, qI, qO, qU])
    refine tq 3 25 _ ?_
    (refine tk 4 26 ?_ ?_ ?_; rotate_left; · (intro w hSw; (try dsimp only at hSw); have b_ := Blk.chg_ hpb3 hSw hbn; obtain ⟨d0, d1, d2, d3⟩ := PgB.head b_; go_simp; (try with_reducible rfl)))
    (try simp only [Act.put, qI, qO, qU])
    refine wpAnyH_ready (rs := [0, 5]) (by kernel_rfl) (by simp) ?_; refine AllReadyH.cons (o := _) rfl (fun K hK => ?_) (AllReadyH.cons (o := _) rfl (fun K hK => ?_) AllReadyH.nil)
    ·go_simp
     refine hK.out _ _ (by (try dsimp only); exact (Chg.refl _ u1).drew) (fun hHeld => ?_)
     clear hK K
     (try dsimp only)
     (try simp only [Act.put, qI, qO, qU])
     refine rdy 5 fun K hK => ?_
     go_simp
     refine hK.out _ _ (by (try dsimp only); exact (k4.weak (by simp))) (fun hHeld => ?_)
     clear hK K
     (try dsimp only)
     (try simp only [Act.put, qI, qO, qU])
     refine rdy 6 fun K hK => ?_
     refine step_append_G (E := numE .i64) (some 28) rfl rfl (.tmp 22) (.tmp 27) 43 rfl 3 (.int .i64 0) 8 Tryz.underlying43 int_info rfl (Value.slice A (tldF (ofB gg) s.L pre).length c) (tldF (ofB gg) s.L pre) rfl hown4 (some ⟨u1.heap.size, 0, none⟩) 1 1 [p.f] rfl hsrc4 rfl (by omega) (fun v' w5 ho5 hc5 hb5 => ?_)
     obtain ⟨A5, c5, rfl, _, _⟩ := ho5.form
     have hl5 : ((tldF (ofB gg) s.L pre) ++ [p.f]).length = (tldF (ofB gg) s.L pre).length + 1 := by simp
     rw [hl5] at ho5 hb5
     clear hl5
     have hk5 : Chg ((w.heap.size + 1) :: (Value.slice A (tldF (ofB gg) s.L pre).length c).ownBlock.toList) u1 w5 := (k4.weak (by simp)).trans hc5 (fun i_ _ hm => List.mem_cons_of_mem _ hm)
     refine hK.out _ _ (by (try dsimp only); exact hk5) (fun hHeld => ?_)
     clear hK K
     (try dsimp only)
     (try simp only [Act.put, qI, qO, qU])
     have hlb5 := (hlb3.chg_ k4 (by simp)).chg_ hc5 hlu
     have lc5 := hlb5.cell 0; have lf5 := hlb5.frozen 0
     simp only [qA, qZ] at lc5
     refine rdy 7 fun K hK => ?_
     go_simp
     refine hK.out _ _ (by (try dsimp only); exact hk5.setCell (p := ⟨w.heap.size + 1, 0, none⟩) (by simp) _) (fun hHeld => ?_)
     clear hK K
     (try dsimp only)
     (try simp only [Act.put, qI, qO, qU])
     refine wpAnyH_done (by kernel_rfl) ?_ _
     refine Only.normal ?_
     gi_wp2
     exact hfin _ _ _ (by simp) hk5 ho5 hb5 hlb5
    go_simp
    refine hK.out _ _ (by (try dsimp only); exact (k4.weak (by simp))) (fun hHeld => ?_)
    clear hK K
    (try dsimp only)
    (try simp only [Act.put, qI, qO, qU])
    refine rdy 0 fun K hK => ?_
    have lc4 := (hlb3.alloc (.cells #[.int .i64 p.f] 3)).cell 0
    simp only [qA, qZ] at lc4
    replace k4 := ((Chg.refl [] u1).alloc (.cells #[.int .i64 p.f] 3)).drew
    replace hown4 := hown3.new k4
    replace hat4 := (Blk.new u1 3 #[.int .i64 p.f]).drew
    replace hsrc4 := (OwnG.lit (E := numE .i64) (L := [p.f]) hat4 (by simp)).src
    go_simp
    refine hK.out _ _ (by (try dsimp only); exact (k4.weak (by simp))) (fun hHeld => ?_)
    clear hK K
    (try dsimp only)
    (try simp only [Act.put, qI, qO, qU])
    refine rdy 6 fun K hK => ?_
    refine step_append_G (E := numE .i64) (some 28) rfl rfl (.tmp 22) (.tmp 27) 43 rfl 3 (.int .i64 0) 8 Tryz.underlying43 int_info rfl (Value.slice A (tldF (ofB gg) s.L pre).length c) (tldF (ofB gg) s.L pre) rfl hown4 (some ⟨u1.heap.size, 0, none⟩) 1 1 [p.f] rfl hsrc4 rfl (by omega) (fun v' w5 ho5 hc5 hb5 => ?_)
    obtain ⟨A5, c5, rfl, _, _⟩ := ho5.form
    have hl5 : ((tldF (ofB gg) s.L pre) ++ [p.f]).length = (tldF (ofB gg) s.L pre).length + 1 := by simp
    rw [hl5] at ho5 hb5
    clear hl5
    have hk5 : Chg ((w.heap.size + 1) :: (Value.slice A (tldF (ofB gg) s.L pre).length c).ownBlock.toList) u1 w5 := (k4.weak (by simp)).trans hc5 (fun i_ _ hm => List.mem_cons_of_mem _ hm)
    refine hK.out _ _ (by (try dsimp only); exact hk5) (fun hHeld => ?_)
    clear hK K
    (try dsimp only)
    (try simp only [Act.put, qI, qO, qU])
    have hlb5 := (hlb3.chg_ k4 (by simp)).chg_ hc5 hlu
    have lc5 := hlb5.cell 0; have lf5 := hlb5.frozen 0
    simp only [qA, qZ] at lc5
    refine rdy 7 fun K hK => ?_
    go_simp
    refine hK.out _ _ (by (try dsimp only); exact hk5.setCell (p := ⟨w.heap.size + 1, 0, none⟩) (by simp) _) (fun hHeld => ?_)
    clear hK K
    (try dsimp only)
    (try simp only [Act.put, qI, qO, qU])
    refine wpAnyH_done (by kernel_rfl) ?_ _
    refine Only.normal ?_
    gi_wp2
    exact hfin _ _ _ (by simp) hk5 ho5 hb5 hlb5
 case done =>
  rintro D xs W2 hD rfl hI2 hK
  obtain ⟨u, hlb, hown, hug⟩ := hI2.hl
  have hc := hI2.ch
  rw [tldF_all, hT.out] at hown
  clear hI2
  obtain ⟨A, c, rfl, _, _⟩ := hown.form
  have c0 := hlb.cell 0
  simp only [qA, qZ] at c0
  gi_wp2
  refine ⟨by simp, .inl ⟨_, _, rfl, run_takeDeferred hK, ?_⟩⟩
  have hgr := grownBy_putObj' W2 D (.deferred none)
  have hrr : ∀ r, some D = some r → ∃ o : Obj, W2.heap[r]? = some o ∧ o.isCells = false := fun r e => by cases e; exact ⟨_, hK, rfl⟩
  refine ⟨_, results_tmp rfl _ _ _, A, c, rfl, own_kept hown hgr hrr, hug, chg_kept hc hml hgr (fun r e => by cases e; exact ⟨hD, _, hK, rfl⟩)⟩
 rintro D c pre W2 _ _ hx _
 exact hx.elim
set_option maxHeartbeats 400000 in
theorem Sall_any {q hp hb n a m fp mp : Nat} {s : Sr} {FS B : List Nat} {v : Value} (w : World) (h : StX w q hp hb n a m s fp mp FS v B) (hN : s.L.length ≤ 256) :
  Calls Tryz.prog 23 #[.pointer (some ⟨q, 0, none⟩)] w (NumP (s.L.map Pg.f) w) := by
 have hL := Stold_all w h hN
 have e : (s.L.filter fun p => allB p.k) = s.L := List.filter_eq_self.2 (fun _ _ => rfl)
 rw [e] at hL
 clear h hN e
 generalize s.L.map Pg.f = T at *
 go_enter Tryz.func23, Tryz.ntmps23
 go_wp2_with fail
 refine hL.mono ?_; rintro e w2 ⟨A, c, rfl, ho, hg, y⟩
 go_wp2_with fail
 go_ret
 exact ⟨A, c, rfl, ho, hg, y⟩
set_option maxHeartbeats 400000 in
theorem Sof_any {q hp hb n a m fp mp : Nat} {s : Sr} {FS B : List Nat} {v : Value} (g : Int) (w : World) (h : StX w q hp hb n a m s fp mp FS v B) (hN : s.L.length ≤ 256) :
  Calls Tryz.prog 95 #[.pointer (some ⟨q, 0, none⟩), .int .i64 g] w (NumP (ofP s.L g) w) := by
 have y0 := (Chg.refl [] w).alloc (.cells #[.int .i64 g] 3)
 have hL := Stold_of w.heap.size g (w.alloc (.cells #[.int .i64 g] 3)) (h.new y0) hN (Blk.new _ _ _)
 have e : ((s.L.filter fun p => ofB g p.k).map Pg.f) = ofP s.L g := rfl
 rw [e] at hL
 clear h hN e
 generalize ofP s.L g = T at *
 have hmf : ∀ (fn : Fn) (first cap : Array Value) (w : World), (Instr.makeFunc fn first cap).run Tryz.prog w = .ok (.func fn first cap) w := fun _ _ _ _ => rfl
 go_enter Tryz.func95, Tryz.ntmps95
 go_wp2_with fail
 refine hL.mono ?_; rintro e w2 ⟨A, c, rfl, ho, hg, y⟩
 go_wp2_with fail
 go_ret
 exact ⟨A, c, rfl, ho, fun g_ hg_ => Nat.le_trans y0.size (hg g_ hg_), y0.trans y (by simp)⟩
end Go.Proofs.YtmbgepafpcbakaaGreatDoor
