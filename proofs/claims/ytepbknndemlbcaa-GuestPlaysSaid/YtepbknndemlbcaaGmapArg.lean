/-
  Lists that a law of gmap copies, writes to, or turns around.
-/
import Derived.Test.YtepbknndemlbcaaGmapHead
import Derived.Deep.RegionLaw
import Derived.Deep.RegionHeld3
namespace Go.Proofs.Ytepbknndemlbcaa
open Go.RowKit Go.Maps

theorem own_any {w : World} {base n : Nat} {t : TypeId} {k : IntKind} {v : Value} {L : List Int} (h : w.ownsRow base t 1 v n (vals k L)) (hl : L.length = n) : OwnI w t k v L := by
  subst hl
  exact ⟨h.1, by
    rcases h.2 with h0 | ⟨g, c', cur, hv, hg, hr⟩
    · exact .inl h0
    · exact .inr ⟨g, c', cur, hv, Nat.zero_le _, hr⟩⟩

theorem OwnI.set_ {w : World} {t : TypeId} {k : IntKind} {g n c : Nat} {L : List Int} (h : OwnI w t k (.slice (some ⟨g, 0, none⟩) n c) L) (i : Nat) (hi : i < L.length) (y : Int) : OwnI (w.setCell ⟨g, i, none⟩ (.int k y)) t k (.slice (some ⟨g, 0, none⟩) n c) (L.set i y) := by
  have hn := h.slice
  subst hn
  unfold OwnI
  refine ⟨by simp [vals], ?_⟩
  rcases h.2 with ⟨h0, _⟩ | ⟨g', c', cur, hv, hg, hb, h1, h2, h3, h4⟩
  · cases h0
  · injection hv with e1 e2 e3
    injection e1 with e1; injection e1 with e1 _ _
    subst e1; subst e3
    refine .inr ⟨g, c, cur.setIfInBounds i (.int k y), by simp, hg, heap_setCell_same w g i cur t _ hb, by simpa using h1, h2, by simpa using h3, ?_⟩
    rw [Nat.mul_one] at h4 ⊢
    rw [List.length_set, Array.toList_setIfInBounds]
    have : (cur.toList.set i (Value.int k y)).take L.length = (cur.toList.take L.length).set i (Value.int k y) := by rw [List.take_set]
    rw [this, h4]
    simp [vals]

/-- append, as one step of a region that draws: nil let in -/
theorem step_append_src {P : Program} {ops : Array Oper} {o : Oper} {a : Act} {w : World} {K : Act → World → Prop} {Q : Exit → Act → World → Prop} {E : Prop} (hgd : o.guard = none) (s x : Operand) (t : TypeId)
    (ho : o.op = .call { callee := .builtin .append, args := #[s, x], argTypes := #[t, t] })
    (base : Nat) (e : TypeId) (i : TypeInfo) (z : Value) (size bytes : Nat) (ht : P.underlying t = some (.slice e)) (hi : P.info? e = some i) (hz : i.zero = some z)
    (hsize : i.size = size) (hby : i.bytes = bytes) (hzs : z.cells.size = size) (hsz : 0 < size)
    (v : Value) (n : Nat) (xs : List Value) (hv : a.eval s = v) (hown : w.ownsRow base e size v n xs) (A : Option Addr) (m c : Nat) (news : List Value) (hx : a.eval x = .slice A m c) (hs : Src w size A m c news)
    (hlen : n + m ≤ maxLen) (hbytes : (n + m) * bytes ≤ 140737488355328) (hbase : base ≤ w.heap.size) (n' : Nat) (hn' : n + m = n') (xs' : List Value) (hxs' : xs ++ news = xs')
    (h : ∀ v' w', w'.ownsRow base e size v' n' xs' → Chg v.ownBlock.toList w w' → (v'.ownBlock = v.ownBlock ∨ v'.ownBlock = some w.heap.size) → K (a.put o.dst v') w') :
    if Region.wanted o (yielded ops a.tmps) = true then Oper.wp P o a w K Q else E := by
  have hw : Region.wanted o (yielded ops a.tmps) = true := by simp [Region.wanted, hgd]
  rw [if_pos hw]
  subst hn'; subst hxs'
  obtain ⟨v', w', h1, h2, h3, h4⟩ := run_append_src (P := P) w base t o.type e i z size bytes ht hi hz hsize hby hzs hsz v n xs hown A m c news hs hlen hbytes hbase
  unfold Oper.wp execOp
  simp only [ho, resolve, invoke, builtin, Sem.run_bind, Sem.run_pure, Result.andThen_ok, List.map_toArray, List.map_cons, List.map_nil, hv, hx, h1]
  exact h v' w' h2 h3 h4

/-- one number that is laid to be appended -/
theorem cell_src (f : Int) (w2 : World) : ∀ a, some (⟨w2.heap.size, 0, none⟩ : Addr) = some a → ∀ j u, [Value.int .i64 f][j]? = some u → (w2.alloc (.cells #[.int .i64 f] 3)).cell? (a.add j) = some u := fun a ha j u hu => by
  injection ha with ha; subst ha
  rw [add_at]
  rw [(Blk.new w2 3 #[.int .i64 f]).cell]
  simpa using hu

theorem own_made0 {w : World} {t : TypeId} {g : Nat} (h : Blk w g t #[]) : w.ownsRow 0 t 1 (.slice (some ⟨g, 0, none⟩) 0 0) 0 [] :=
  ⟨by simp, .inr ⟨g, 0, #[], rfl, Nat.zero_le _, h, Nat.le_refl _, by simp [maxLen], by simp, by simp⟩⟩
theorem src_one {w : World} {t : TypeId} {g : Nat} {x : Int} (h : Blk w g t #[.int .i64 x]) : Src w 1 (some ⟨g, 0, none⟩) 1 1 [.int .i64 x] :=
  ⟨by simp, by simp [Value.oneCell'], by simp, fun a ha j u hu => by
    injection ha with ha; subst ha
    rw [add_at, h.cell]; simpa using hu⟩
theorem blk_second (w4 : World) (o : Obj) (t : TypeId) (cs : Array Value) : Blk ((w4.drew.alloc o).alloc (.cells cs t)) (w4.heap.size + 1) t cs := by
  have := Blk.new (w4.drew.alloc o) t cs
  rwa [show (w4.drew.alloc o).heap.size = w4.heap.size + 1 by simp] at this
theorem vals_snoc (L : List Int) (x : Int) : vals .i64 L ++ [.int .i64 x] = vals .i64 (L ++ [x]) := by rw [vals_app, vals_one]
theorem step_one {w4 W w5 : World} {g : Nat} {v5 : Value} (hW : Chg [] w4 W) (hg : w4.heap.size ≤ g) (hc5 : Chg (Value.slice (some ⟨g, 0, none⟩) 0 0).ownBlock.toList W w5)
    (hv5 : v5.ownBlock = (Value.slice (some ⟨g, 0, none⟩) 0 0).ownBlock ∨ v5.ownBlock = some W.heap.size) : Chg [] w4 w5 ∧ ∀ i ∈ v5.ownBlock.toList, w4.heap.size ≤ i := by
  have e : (Value.slice (some ⟨g, 0, none⟩) 0 0).ownBlock = some g := rfl
  rw [e] at hc5 hv5
  refine ⟨hW.trans hc5 (by intro i hi hm; simp at hm; omega), ?_⟩
  intro i hi
  have := hW.size
  rw [Option.mem_toList] at hi
  rcases hv5 with h | h <;> rw [h] at hi <;> injection hi with hi <;> omega
theorem step_two {w4 W w6 : World} {v5 : Value} (hW : Chg [] w4 W) (hg5 : ∀ i ∈ v5.ownBlock.toList, w4.heap.size ≤ i) (hc6 : Chg v5.ownBlock.toList W w6) : Chg [] w4 w6 :=
  hW.trans hc6 (by intro i hi hm; have := hg5 i hm; omega)

theorem OkL.rev {L : List Int} {fr : Int} (h : OkL L fr) : OkL L.reverse fr :=
  ⟨by rw [List.length_reverse]; exact h.1, by rw [List.length_reverse]; exact h.2.1, h.2.2.1, h.2.2.2.1, fun x hx => h.2.2.2.2.1 x (by simpa using hx), (List.reverse_perm L).nodup_iff.2 h.2.2.2.2.2⟩
theorem OkL.rev_iff {L : List Int} {fr : Int} : OkL L.reverse fr ↔ OkL L fr := ⟨fun h => by have := h.rev; rwa [List.reverse_reverse] at this, OkL.rev⟩

end Go.Proofs.Ytepbknndemlbcaa
