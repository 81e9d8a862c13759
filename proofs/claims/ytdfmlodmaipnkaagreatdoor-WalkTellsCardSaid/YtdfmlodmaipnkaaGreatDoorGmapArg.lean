/-
  Lists that a law of gmap copies, writes to, or turns around.
-/
import Derived.Test.YtdfmlodmaipnkaaGreatDoorCls
import Derived.Test.YtdfmlodmaipnkaaGreatDoorGmapHead
import Derived.Deep.RegionLaw
import Derived.Deep.RegionHeld3
namespace Go.Proofs.YtdfmlodmaipnkaaGreatDoor
open Go.RowKit Go.Maps

theorem own_any {w : World} {base n : Nat} {t : TypeId} {k : IntKind} {v : Value} {L : List Int} (h : w.ownsRow base t 1 v n (vals k L)) (hl : L.length = n) : OwnI w t k v L := by
  subst hl
  exact ⟨h.1, by
    rcases h.2 with h0 | ⟨g, c', cur, hv, hg, hr⟩
    · exact .inl h0
    · exact .inr ⟨g, c', cur, hv, Nat.zero_le _, hr⟩⟩

theorem OwnI.set_ {w : World} {t : TypeId} {k : IntKind} {g n c : Nat} {L : List Int} (h : OwnI w t k (.slice (some ⟨g, 0, none⟩) n c) L) (i : Nat) (_hi : i < L.length) (y : Int) : OwnI (w.setCell ⟨g, i, none⟩ (.int k y)) t k (.slice (some ⟨g, 0, none⟩) n c) (L.set i y) := by
  have hn := h.slice
  subst hn
  unfold OwnI
  refine ⟨by simp [vals], ?_⟩
  rcases h.2 with ⟨h0, _⟩ | ⟨g', c', cur, hv, hg, hb, h1, h2, h3, h4⟩
  · cases h0
  · injection hv with e1 e2 e3
    injection e1 with e1; injection e1 with e1 _ _
    subst e1; subst e3
    refine .inr ⟨g, c, cur.setIfInBounds i (.int k y), by simp, hg, heap_setCell_same w g i cur t _ hb, by simpa using h1, h2, by simpa using h3, ?_⟩
    rw [Nat.mul_one] at h4 ⊢
    rw [List.length_set, Array.toList_setIfInBounds]
    have : (cur.toList.set i (Value.int k y)).take L.length = (cur.toList.take L.length).set i (Value.int k y) := by rw [List.take_set]
    rw [this, h4]
    simp [vals]

theorem own_made0 {w : World} {t : TypeId} {g : Nat} (h : Blk w g t #[]) : w.ownsRow 0 t 1 (.slice (some ⟨g, 0, none⟩) 0 0) 0 [] :=
  ⟨by simp, .inr ⟨g, 0, #[], rfl, Nat.zero_le _, h, Nat.le_refl _, by simp [maxLen], by simp, by simp⟩⟩
theorem src_one {w : World} {t : TypeId} {g : Nat} {x : Int} (h : Blk w g t #[.int .i64 x]) : Src w 1 (some ⟨g, 0, none⟩) 1 1 [.int .i64 x] :=
  ⟨by simp, by simp [Value.oneCell'], by simp, fun a ha j u hu => by
    injection ha with ha; subst ha
    rw [add_at, h.cell]; simpa using hu⟩
theorem blk_second (w4 : World) (o : Obj) (t : TypeId) (cs : Array Value) : Blk ((w4.drew.alloc o).alloc (.cells cs t)) (w4.heap.size + 1) t cs := by
  have := Blk.new (w4.drew.alloc o) t cs
  rwa [show (w4.drew.alloc o).heap.size = w4.heap.size + 1 by simp] at this
theorem vals_snoc (L : List Int) (x : Int) : vals .i64 L ++ [.int .i64 x] = vals .i64 (L ++ [x]) := by rw [vals_app, vals_one]
theorem step_one {w4 W w5 : World} {g : Nat} {v5 : Value} (hW : Chg [] w4 W) (hg : w4.heap.size ≤ g) (hc5 : Chg (Value.slice (some ⟨g, 0, none⟩) 0 0).ownBlock.toList W w5)
    (hv5 : v5.ownBlock = (Value.slice (some ⟨g, 0, none⟩) 0 0).ownBlock ∨ v5.ownBlock = some W.heap.size) : Chg [] w4 w5 ∧ ∀ i ∈ v5.ownBlock.toList, w4.heap.size ≤ i := by
  have e : (Value.slice (some ⟨g, 0, none⟩) 0 0).ownBlock = some g := rfl
  rw [e] at hc5 hv5
  refine ⟨hW.trans hc5 (by intro i hi hm; simp at hm; omega), ?_⟩
  intro i hi
  have := hW.size
  rw [Option.mem_toList] at hi
  rcases hv5 with h | h <;> rw [h] at hi <;> injection hi with hi <;> omega
theorem step_two {w4 W w6 : World} {v5 : Value} (hW : Chg [] w4 W) (hg5 : ∀ i ∈ v5.ownBlock.toList, w4.heap.size ≤ i) (hc6 : Chg v5.ownBlock.toList W w6) : Chg [] w4 w6 :=
  hW.trans hc6 (by intro i hi hm; have := hg5 i hm; omega)

theorem OkL.rev {L : List Int} {fr : Int} (h : OkL L fr) : OkL L.reverse fr :=
  ⟨by rw [List.length_reverse]; exact h.1, by rw [List.length_reverse]; exact h.2.1, h.2.2.1, h.2.2.2.1, fun x hx => h.2.2.2.2.1 x (by simpa using hx), (List.reverse_perm L).nodup_iff.2 h.2.2.2.2.2⟩
theorem OkL.rev_iff {L : List Int} {fr : Int} : OkL L.reverse fr ↔ OkL L fr := ⟨fun h => by have := h.rev; rwa [List.reverse_reverse] at this, OkL.rev⟩

end Go.Proofs.YtdfmlodmaipnkaaGreatDoor
