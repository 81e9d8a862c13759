/-
  The contract of model's Access.
-/
import Derived.Test.YtedginkenmafmaaGreatDoorModelF
import Derived.Deep.LoopGhost
namespace Go.Proofs.YtedginkenmafmaaGreatDoor
open Go.RowKit Go.Shelf

section
variable (n : Nat) (L : List Int) (s : Ms) (a : Nat) (k : Int) (u : Bool)
/-- where Access stands ahead of its question z -/
inductive AccZ : Int → Ms → Prop
  | z0 : AccZ 0 s
  | z1 (_ : aliB a = true) : AccZ 1 s
  | z2 (_ : aliB a = true) (_ : canB a = true) : AccZ 2 s
  | z3 (s1 : Ms) (_ : aliB a = true) (_ : canB a = true) (_ : (takeM n L s (pageN a) k u).2.2.1 = 0) (_ : s1 = (takeM n L s (pageN a) k u).1) : AccZ 3 s1
end
/-- the blocks of an Access -/
structure AccB (w : World) (gm gk gu ga go gs : Nat) (m a : Nat) (k : Int) (u : Bool) (fs : Array Value) : Prop where
  bm : Blk w gm 29 #[.pointer (some ⟨m, 0, none⟩)]
  bk : Blk w gk 3 #[.int .i64 k]
  bu : Blk w gu 4 #[.bool u]
  ba : Blk w ga 33 #[.int .u64 a]
  bo : Blk w go 37 #[.int .i64 0, .int .u64 0, .int .i64 0, .int .u64 0]
  bs : Blk w gs 110 fs
theorem AccB.far {w w' : World} {gm gk gu ga go gs m a : Nat} {k : Int} {u : Bool} {fs : Array Value} {F : List Nat} (h : AccB w gm gk gu ga go gs m a k u fs) (f : Far F w w') (hF : ∀ i ∈ [gm, gk, gu, ga, go, gs], i ∈ F) : AccB w' gm gk gu ga go gs m a k u fs :=
  ⟨f.blk h.bm (hF _ (by simp)), f.blk h.bk (hF _ (by simp)), f.blk h.bu (hF _ (by simp)), f.blk h.ba (hF _ (by simp)), f.blk h.bo (hF _ (by simp)), f.blk h.bs (hF _ (by simp))⟩

/-- the blocks of an Access, as a list -/
def G7 (g : Nat) : List Nat := [g, g + 1, g + 2, g + 3, g + 4, g + 5, g + 6]
theorem far4 {w : World} {g g' : Nat} {t : TypeId} {cs : Array Value} {y0 y1 y2 y3 : Value} (h : Blk w g' t cs) (hn : g' ≠ g) : Blk ((((w.setCell ⟨g, 0, none⟩ y0).setCell ⟨g, 1, none⟩ y1).setCell ⟨g, 2, none⟩ y2).setCell ⟨g, 3, none⟩ y3) g' t cs := (((h.far (p := ⟨g, 0, none⟩) hn y0).far (p := ⟨g, 1, none⟩) hn y1).far (p := ⟨g, 2, none⟩) hn y2).far (p := ⟨g, 3, none⟩) hn y3

section
variable {w0 w : World} {F : List Nat} {m t q p h b n : Nat} {S : List Nat} {L : List Int} {s : Ms}
set_option maxRecDepth 100000 in
set_option maxHeartbeats 16000000 in
theorem MAcc_b (k : Int) (u : Bool) (a : Nat) (v : Int) (ha : a < 18446744073709551616) (hv : 0 ≤ v ∧ v < 18446744073709551616) (H : ModB w0 F w m t q S p L h b n s) :
    Calls Tryz.prog 24 #[.pointer (some ⟨m, 0, none⟩), .int .i64 k, .bool u, .int .u64 a, .int .u64 v] w fun e w' =>
      e = .returned (.agg (accM n L s k u a v).2.cs) ∧ ModB w0 F w' m t q S p L h b n (accM n L s k u a v).1 ∧ Far F w w' := by
  have hmf : ∀ (fn : Fn) (first cap : Array Value) (w : World), (Instr.makeFunc fn first cap).run Tryz.prog w = .ok (.func fn first cap) w := fun _ _ _ _ => rfl
  have hc7 : Chg [] w (((((((w.alloc (.cells #[.pointer (some ⟨m, 0, none⟩)] 29)).alloc (.cells #[.int .i64 k] 3)).alloc (.cells #[.bool u] 4)).alloc (.cells #[.int .u64 a] 33)).alloc (.cells #[.int .i64 0, .int .u64 0, .int .i64 0, .int .u64 0] 37)).alloc (.cells #[.int .i64 0, .int .i64 0, .int .i64 0, .bool false, .bool false, .bool false, .bool false] 45)).alloc (.cells #[.func (.func 64) #[] #[.pointer (some ⟨w.heap.size + 3, 0, none⟩)], .func (.func 66) #[] #[.pointer (some ⟨w.heap.size + 3, 0, none⟩)], .func (.func 68) #[] #[.pointer (some ⟨w.heap.size, 0, none⟩), .pointer (some ⟨w.heap.size + 3, 0, none⟩), .pointer (some ⟨w.heap.size + 1, 0, none⟩), .pointer (some ⟨w.heap.size + 2, 0, none⟩), .pointer (some ⟨w.heap.size + 5, 0, none⟩)]] 110)) := (((((((Chg.refl [] w).alloc _).alloc _).alloc _).alloc _).alloc _).alloc _).alloc _
  have bm := (((((((Blk.new w 29 #[.pointer (some ⟨m, 0, none⟩)]).alloc (.cells #[.int .i64 k] 3)).alloc (.cells #[.bool u] 4)).alloc (.cells #[.int .u64 a] 33)).alloc (.cells #[.int .i64 0, .int .u64 0, .int .i64 0, .int .u64 0] 37)).alloc (.cells #[.int .i64 0, .int .i64 0, .int .i64 0, .bool false, .bool false, .bool false, .bool false] 45)).alloc (.cells #[.func (.func 64) #[] #[.pointer (some ⟨w.heap.size + 3, 0, none⟩)], .func (.func 66) #[] #[.pointer (some ⟨w.heap.size + 3, 0, none⟩)], .func (.func 68) #[] #[.pointer (some ⟨w.heap.size, 0, none⟩), .pointer (some ⟨w.heap.size + 3, 0, none⟩), .pointer (some ⟨w.heap.size + 1, 0, none⟩), .pointer (some ⟨w.heap.size + 2, 0, none⟩), .pointer (some ⟨w.heap.size + 5, 0, none⟩)]] 110))
  have bk := ((((((Blk.new (w.alloc (.cells #[.pointer (some ⟨m, 0, none⟩)] 29)) 3 #[.int .i64 k]).alloc (.cells #[.bool u] 4)).alloc (.cells #[.int .u64 a] 33)).alloc (.cells #[.int .i64 0, .int .u64 0, .int .i64 0, .int .u64 0] 37)).alloc (.cells #[.int .i64 0, .int .i64 0, .int .i64 0, .bool false, .bool false, .bool false, .bool false] 45)).alloc (.cells #[.func (.func 64) #[] #[.pointer (some ⟨w.heap.size + 3, 0, none⟩)], .func (.func 66) #[] #[.pointer (some ⟨w.heap.size + 3, 0, none⟩)], .func (.func 68) #[] #[.pointer (some ⟨w.heap.size, 0, none⟩), .pointer (some ⟨w.heap.size + 3, 0, none⟩), .pointer (some ⟨w.heap.size + 1, 0, none⟩), .pointer (some ⟨w.heap.size + 2, 0, none⟩), .pointer (some ⟨w.heap.size + 5, 0, none⟩)]] 110))
  have bu := (((((Blk.new ((w.alloc (.cells #[.pointer (some ⟨m, 0, none⟩)] 29)).alloc (.cells #[.int .i64 k] 3)) 4 #[.bool u]).alloc (.cells #[.int .u64 a] 33)).alloc (.cells #[.int .i64 0, .int .u64 0, .int .i64 0, .int .u64 0] 37)).alloc (.cells #[.int .i64 0, .int .i64 0, .int .i64 0, .bool false, .bool false, .bool false, .bool false] 45)).alloc (.cells #[.func (.func 64) #[] #[.pointer (some ⟨w.heap.size + 3, 0, none⟩)], .func (.func 66) #[] #[.pointer (some ⟨w.heap.size + 3, 0, none⟩)], .func (.func 68) #[] #[.pointer (some ⟨w.heap.size, 0, none⟩), .pointer (some ⟨w.heap.size + 3, 0, none⟩), .pointer (some ⟨w.heap.size + 1, 0, none⟩), .pointer (some ⟨w.heap.size + 2, 0, none⟩), .pointer (some ⟨w.heap.size + 5, 0, none⟩)]] 110))
  have ba := ((((Blk.new (((w.alloc (.cells #[.pointer (some ⟨m, 0, none⟩)] 29)).alloc (.cells #[.int .i64 k] 3)).alloc (.cells #[.bool u] 4)) 33 #[.int .u64 a]).alloc (.cells #[.int .i64 0, .int .u64 0, .int .i64 0, .int .u64 0] 37)).alloc (.cells #[.int .i64 0, .int .i64 0, .int .i64 0, .bool false, .bool false, .bool false, .bool false] 45)).alloc (.cells #[.func (.func 64) #[] #[.pointer (some ⟨w.heap.size + 3, 0, none⟩)], .func (.func 66) #[] #[.pointer (some ⟨w.heap.size + 3, 0, none⟩)], .func (.func 68) #[] #[.pointer (some ⟨w.heap.size, 0, none⟩), .pointer (some ⟨w.heap.size + 3, 0, none⟩), .pointer (some ⟨w.heap.size + 1, 0, none⟩), .pointer (some ⟨w.heap.size + 2, 0, none⟩), .pointer (some ⟨w.heap.size + 5, 0, none⟩)]] 110))
  have bo := (((Blk.new ((((w.alloc (.cells #[.pointer (some ⟨m, 0, none⟩)] 29)).alloc (.cells #[.int .i64 k] 3)).alloc (.cells #[.bool u] 4)).alloc (.cells #[.int .u64 a] 33)) 37 #[.int .i64 0, .int .u64 0, .int .i64 0, .int .u64 0]).alloc (.cells #[.int .i64 0, .int .i64 0, .int .i64 0, .bool false, .bool false, .bool false, .bool false] 45)).alloc (.cells #[.func (.func 64) #[] #[.pointer (some ⟨w.heap.size + 3, 0, none⟩)], .func (.func 66) #[] #[.pointer (some ⟨w.heap.size + 3, 0, none⟩)], .func (.func 68) #[] #[.pointer (some ⟨w.heap.size, 0, none⟩), .pointer (some ⟨w.heap.size + 3, 0, none⟩), .pointer (some ⟨w.heap.size + 1, 0, none⟩), .pointer (some ⟨w.heap.size + 2, 0, none⟩), .pointer (some ⟨w.heap.size + 5, 0, none⟩)]] 110))
  have bh := ((Blk.new (((((w.alloc (.cells #[.pointer (some ⟨m, 0, none⟩)] 29)).alloc (.cells #[.int .i64 k] 3)).alloc (.cells #[.bool u] 4)).alloc (.cells #[.int .u64 a] 33)).alloc (.cells #[.int .i64 0, .int .u64 0, .int .i64 0, .int .u64 0] 37)) 45 #[.int .i64 0, .int .i64 0, .int .i64 0, .bool false, .bool false, .bool false, .bool false]).alloc (.cells #[.func (.func 64) #[] #[.pointer (some ⟨w.heap.size + 3, 0, none⟩)], .func (.func 66) #[] #[.pointer (some ⟨w.heap.size + 3, 0, none⟩)], .func (.func 68) #[] #[.pointer (some ⟨w.heap.size, 0, none⟩), .pointer (some ⟨w.heap.size + 3, 0, none⟩), .pointer (some ⟨w.heap.size + 1, 0, none⟩), .pointer (some ⟨w.heap.size + 2, 0, none⟩), .pointer (some ⟨w.heap.size + 5, 0, none⟩)]] 110))
  have bs := (Blk.new ((((((w.alloc (.cells #[.pointer (some ⟨m, 0, none⟩)] 29)).alloc (.cells #[.int .i64 k] 3)).alloc (.cells #[.bool u] 4)).alloc (.cells #[.int .u64 a] 33)).alloc (.cells #[.int .i64 0, .int .u64 0, .int .i64 0, .int .u64 0] 37)).alloc (.cells #[.int .i64 0, .int .i64 0, .int .i64 0, .bool false, .bool false, .bool false, .bool false] 45)) 110 #[.func (.func 64) #[] #[.pointer (some ⟨w.heap.size + 3, 0, none⟩)], .func (.func 66) #[] #[.pointer (some ⟨w.heap.size + 3, 0, none⟩)], .func (.func 68) #[] #[.pointer (some ⟨w.heap.size, 0, none⟩), .pointer (some ⟨w.heap.size + 3, 0, none⟩), .pointer (some ⟨w.heap.size + 1, 0, none⟩), .pointer (some ⟨w.heap.size + 2, 0, none⟩), .pointer (some ⟨w.heap.size + 5, 0, none⟩)]])
  simp only [World.size_alloc, Nat.add_assoc, Nat.reduceAdd] at bm bk bu ba bo bh bs
  have H7 := H.more (G := [w.heap.size, w.heap.size + 1, w.heap.size + 2, w.heap.size + 3, w.heap.size + 4, w.heap.size + 5, w.heap.size + 6]) hc7 (by intro i hi; simp at hi; simp; omega)
  have hs0 := H.c0.size
  have hFw : ∀ i ∈ F, i < w.heap.size := fun i hi => H.tb.2.1 i (List.mem_append.2 (.inr hi))
  clear H
  have hB : AccB _ _ _ _ _ _ _ m a k u _ := ⟨bm, bk, bu, ba, bo, bs⟩
  go_enter Tryz.func24, Tryz.ntmps24
  go_wp2_with fail
  generalize hw7 : (((((((w.alloc (.cells #[.pointer (some ⟨m, 0, none⟩)] 29)).alloc (.cells #[.int .i64 k] 3)).alloc (.cells #[.bool u] 4)).alloc (.cells #[.int .u64 a] 33)).alloc (.cells #[.int .i64 0, .int .u64 0, .int .i64 0, .int .u64 0] 37)).alloc (.cells #[.int .i64 0, .int .i64 0, .int .i64 0, .bool false, .bool false, .bool false, .bool false] 45)).alloc (.cells #[.func (.func 64) #[] #[.pointer (some ⟨w.heap.size + 3, 0, none⟩)], .func (.func 66) #[] #[.pointer (some ⟨w.heap.size + 3, 0, none⟩)], .func (.func 68) #[] #[.pointer (some ⟨w.heap.size, 0, none⟩), .pointer (some ⟨w.heap.size + 3, 0, none⟩), .pointer (some ⟨w.heap.size + 1, 0, none⟩), .pointer (some ⟨w.heap.size + 2, 0, none⟩), .pointer (some ⟨w.heap.size + 5, 0, none⟩)]] 110)) = w7 at *
  clear hw7 bm bk bu ba bo bs
  have nS : Hid (w0.heap.size ≤ w.heap.size + 4 ∧ w0.heap.size ≤ w.heap.size + 5) := Lib.hid (by omega)
  have nF : Hid (∀ j, w.heap.size + j ∉ F) := Lib.hid (fun j hm => by have := hFw _ hm; omega)
  clear hs0 hFw
  generalize w.heap.size = gm at *
  have f7 : Far F w w7 := Far.of_new hc7
  clear hc7
  go_loopg [21] 3 (fun gg s21 wr => ∃ (z : Int) (s1 : Ms) (x : Ht), (3 - z).toNat ≤ gg ∧ s21 = .int .i64 z ∧ Aside (AccZ n L s a k u z s1) ∧ Aside (z = 3 → x = (takeM n L s (pageN a) k u).2.1) ∧ Aside (AccB wr gm (gm + 1) (gm + 2) (gm + 3) (gm + 4) (gm + 6) m a k u #[.func (.func 64) #[] #[.pointer (some ⟨gm + 3, 0, none⟩)], .func (.func 66) #[] #[.pointer (some ⟨gm + 3, 0, none⟩)], .func (.func 68) #[] #[.pointer (some ⟨gm, 0, none⟩), .pointer (some ⟨gm + 3, 0, none⟩), .pointer (some ⟨gm + 1, 0, none⟩), .pointer (some ⟨gm + 2, 0, none⟩), .pointer (some ⟨gm + 5, 0, none⟩)]]) ∧ Aside (Blk wr (gm + 5) 45 x.cl.toArray) ∧ Aside (ModB w0 (G7 gm ++ F) wr m t q S p L h b n s1) ∧ Aside (Far F w wr))
  case atStart => exact ⟨0, s, Ht.zero, by decide, rfl, AccZ.z0, (by intro h; cases h), hB, bh, H7, f7⟩
  case round =>
    obtain ⟨z, s1, x, hg, rfl, HZ, HX, HB, HH, HM, HFr⟩ := hrel
    clear hB bh H7 f7
    have hsl := HB.out.bs
    have d0 := hsl.cell 0; have d1 := hsl.cell 1; have d2 := hsl.cell 2
    simp only [List.getElem?_toArray, List.getElem?_cons_zero, List.getElem?_cons_succ] at d0 d1 d2
    obtain ⟨r0, r1, r2, r3, z0, z1, z2, z3⟩ := blk4 HB.out.bo
    have ca := box1 HB.out.ba
    cases HZ.out with
    | z0 =>
      simp at hg
      clear HZ HX
      have hA := Acc1_any (gm + 3) a wr ha HB.out.ba
      cases hal : aliB a with
      | true =>
        rw [hal, if_pos rfl] at hA
        have HAL := Lib.hid hal
        clear hal
        go_wp2_with fail
        refine hA.mono ?_; rintro e w2 ⟨rfl, k2⟩
        have B2 := HB.out.far (Far.of_new (F := G7 gm) k2) (by simp [G7])
        have x2 := HH.out.chg_ k2 (by simp)
        have H2 := HM.out.new k2
        have f2 := HFr.out.trans (Far.of_new k2)
        clear hA ca d0 d1 d2 r0 r1 r2 r3 z0 z1 z2 z3 hsl
        go_wp2_with fail
        go_roundg 2
        case measure => omega
        case rel => exact ⟨1, s, x, by decide, by go_num, (AccZ.z1 HAL.out), (by intro h; cases h), B2, x2, H2, f2⟩
      | false =>
        rw [hal, if_neg (by decide)] at hA
        have HAL := Lib.hid hal
        clear hal
        go_wp2_with fail
        refine hA.mono ?_; rintro e w2 ⟨rfl, k2⟩
        have B2 := HB.out.far (Far.of_new (F := G7 gm) k2) (by simp [G7])
        have H2 := HM.out.new k2
        have f2 := HFr.out.trans (Far.of_new k2)
        clear hA ca d0 d1 d2 r0 r1 r2 r3 z0 z1 z2 z3 hsl
        obtain ⟨r0, r1, r2, r3, z0, z1, z2, z3⟩ := blk4 B2.bo
        have ca := box1 B2.ba
        go_wp2_with fail
        refine bodyPost_ret (cell_ret rfl (set4 B2.bo) rfl Tryz.underlying37 rfl (by kernel_rfl)) rfl ?_
        have hk := chg4 (y0 := .int .i64 4) (y1 := .int .u64 0) (y2 := .int .i64 0) (y3 := .int .u64 a) (g := gm + 4) (Chg.refl [gm + 4] w2) (by simp)
        rw [show accM n L s k u a v = (s, ⟨4, 0, 0, a⟩) from by unfold accM; rw [HAL.out, if_neg (by decide)]]
        exact ⟨rfl, (H2.turn (by simp [G7]) hk nS.out.1).less (fun i hi => by simp [hi]), f2.trans ⟨_, hk, by simpa using nF.out 4⟩⟩
    | z1 ha1 =>
      have HA1 := Lib.hid ha1
      clear ha1 HZ HX
      simp at hg
      have hA := Acc2_any (gm + 3) a wr HB.out.ba
      cases hal : canB a with
      | true =>
        rw [hal, if_pos rfl] at hA
        have HAL := Lib.hid hal
        clear hal
        go_wp2_with fail
        refine hA.mono ?_; rintro e w2 ⟨rfl, k2⟩
        have B2 := HB.out.far (Far.of_new (F := G7 gm) k2) (by simp [G7])
        have x2 := HH.out.chg_ k2 (by simp)
        have H2 := HM.out.new k2
        have f2 := HFr.out.trans (Far.of_new k2)
        clear hA ca d0 d1 d2 r0 r1 r2 r3 z0 z1 z2 z3 hsl
        go_wp2_with fail
        go_roundg 1
        case measure => omega
        case rel => exact ⟨2, s, x, by decide, by go_num, (AccZ.z2 HA1.out HAL.out), (by intro h; cases h), B2, x2, H2, f2⟩
      | false =>
        rw [hal, if_neg (by decide)] at hA
        have HAL := Lib.hid hal
        clear hal
        go_wp2_with fail
        refine hA.mono ?_; rintro e w2 ⟨rfl, k2⟩
        have B2 := HB.out.far (Far.of_new (F := G7 gm) k2) (by simp [G7])
        have H2 := HM.out.new k2
        have f2 := HFr.out.trans (Far.of_new k2)
        clear hA ca d0 d1 d2 r0 r1 r2 r3 z0 z1 z2 z3 hsl
        obtain ⟨r0, r1, r2, r3, z0, z1, z2, z3⟩ := blk4 B2.bo
        have ca := box1 B2.ba
        go_wp2_with fail
        refine bodyPost_ret (cell_ret rfl (set4 B2.bo) rfl Tryz.underlying37 rfl (by kernel_rfl)) rfl ?_
        have hk := chg4 (y0 := .int .i64 2) (y1 := .int .u64 0) (y2 := .int .i64 0) (y3 := .int .u64 a) (g := gm + 4) (Chg.refl [gm + 4] w2) (by simp)
        rw [show accM n L s k u a v = (s, ⟨2, 0, 0, a⟩) from by unfold accM; rw [HA1.out, if_pos rfl, HAL.out, if_neg (by decide)]]
        exact ⟨rfl, (H2.turn (by simp [G7]) hk nS.out.1).less (fun i hi => by simp [hi]), f2.trans ⟨_, hk, by simpa using nF.out 4⟩⟩
    | z2 ha1 ha2 =>
      have HA1 := Lib.hid ha1; have HA2 := Lib.hid ha2
      clear ha1 ha2 HZ HX
      simp at hg
      have hA := Acc3_b gm (gm + 3) (gm + 1) (gm + 2) (gm + 5) a k u x ha HM.out nS.out.2 (by simp [G7]) HB.out.bm HB.out.ba HB.out.bk HB.out.bu HH.out
      have hZ3 := fun h => AccZ.z3 (n := n) (L := L) (s := s) (a := a) (k := k) (u := u) (takeM n L s (pageN a) k u).1 HA1.out HA2.out h rfl
      have hAc : accM n L s k u a v = goOn n L (takeM n L s (pageN a) k u) (wordN a) k a v := by unfold accM; rw [HA1.out, if_pos rfl, HA2.out, if_pos rfl]
      have HAc := Lib.hid hAc; have HZ3 := Lib.hid hZ3
      clear hAc hZ3
      generalize hT : takeM n L s (pageN a) k u = tk at *
      have HTk := Lib.hid hT
      clear hT
      obtain ⟨s3, x3, how, code⟩ := tk
      simp only at hA HZ3
      by_cases hh : how = 0
      · subst hh
        go_wp2_with fail
        refine hA.mono ?_; rintro e w2 ⟨rfl, H2, x2, k2⟩
        have f2 := HFr.out.trans (k2 F (fun i hi => ⟨by simp [hi], fun e => nF.out 5 (e ▸ hi)⟩))
        have B2 := HB.out.far (k2 [gm, gm + 1, gm + 2, gm + 3, gm + 4, gm + 6] (by simp [G7])) (by simp)
        clear hA ca d0 d1 d2 r0 r1 r2 r3 z0 z1 z2 z3 hsl
        go_wp2_with fail
        go_roundg 0
        case measure => omega
        case rel => exact ⟨3, s3, x3, by decide, by go_num, HZ3.out (by first | rfl | trivial), (fun _ => by first | rfl | rw [HTk.out]), B2, x2, H2, f2⟩
      · have hb0 : (how == 0) = false := by simpa using hh
        have HH0 := Lib.hid hh
        clear hh
        go_wp2_with fail
        refine hA.mono ?_; rintro e w2 ⟨rfl, H2, x2, k2⟩
        have f2 := HFr.out.trans (k2 F (fun i hi => ⟨by simp [hi], fun e => nF.out 5 (e ▸ hi)⟩))
        have B2 := HB.out.far (k2 [gm, gm + 1, gm + 2, gm + 3, gm + 4, gm + 6] (by simp [G7])) (by simp)
        clear hA ca d0 d1 d2 r0 r1 r2 r3 z0 z1 z2 z3 hsl
        obtain ⟨r0, r1, r2, r3, z0, z1, z2, z3⟩ := blk4 B2.bo
        have ca := box1 B2.ba
        go_wp2_with fail
        refine bodyPost_ret (cell_ret rfl (set4 B2.bo) rfl Tryz.underlying37 rfl (by kernel_rfl)) rfl ?_
        have hk := chg4 (y0 := .int .i64 how) (y1 := .int .u64 0) (y2 := .int .i64 code) (y3 := .int .u64 a) (g := gm + 4) (Chg.refl [gm + 4] w2) (by simp)
        rw [show accM n L s k u a v = (s3, ⟨how, 0, code, a⟩) from by rw [HAc.out]; unfold goOn; rw [if_neg HH0.out]]
        exact ⟨rfl, (H2.turn (by simp [G7]) hk nS.out.1).less (fun i hi => by simp [hi]), f2.trans ⟨_, hk, by simpa using nF.out 4⟩⟩
    | z3 _ ha1 ha2 h0 hs1 =>
      subst hs1
      have hxx := HX.out rfl
      have hAc : accM n L s k u a v = touchM n L (takeM n L s (pageN a) k u).1 (takeM n L s (pageN a) k u).2.1.f (wordN a) k v := by unfold accM; rw [ha1, if_pos rfl, ha2, if_pos rfl]; unfold goOn; rw [if_pos h0]
      have HAc := Lib.hid hAc
      subst hxx
      clear hAc ha1 ha2 h0 HZ HX hg d0 d1 d2 hsl ca r0 r1 r2 r3 z0 z1 z2 z3
      have hT := fun w9 (H9 : ModB w0 (G7 gm ++ F) w9 m t q S p L h b n (takeM n L s (pageN a) k u).1) => MTouch_b (takeM n L s (pageN a) k u).2.1.f (wordN a) k v hv H9
      have hW := fun w9 => Word_any a w9 ha
      have bh := HH.out
      have H1 := HM.out
      generalize hs3 : (takeM n L s (pageN a) k u).1 = s3 at *
      generalize hx3 : (takeM n L s (pageN a) k u).2.1 = x3 at *
      clear hs3 hx3
      generalize htt : touchM n L s3 x3.f (wordN a) k v = tt at *
      have HAc2 := Lib.hid HAc.out
      clear htt
      obtain ⟨s4, ⟨oh, ov, oc, oa⟩⟩ := tt
      simp only [Ot.cs] at hT
      obtain ⟨ya, yp, yf, yw, yu, yx, yd⟩ := x3
      simp only [Ht.cl] at bh hT
      generalize wordN a = wn at *
      go_wp2_with fail
      refine wp_region_noPanic ?_
      refine wp_region_held_drew (S := (fun w' => Blk w' gm 29 #[.pointer (some ⟨m, 0, none⟩)] ∧ Blk w' (gm + 1) 3 #[.int .i64 k] ∧ Blk w' (gm + 3) 33 #[.int .u64 a] ∧ Blk w' (gm + 5) 45 #[.int .i64 ya, .int .i64 yp, .int .i64 yf, .bool yw, .bool yu, .bool yx, .bool yd])) (by kernel_rfl) ?_ (fun hHeld => ?_)
      · exact ⟨HB.out.bm.drew, HB.out.bk.drew, HB.out.ba.drew, bh.drew⟩
      (refine take_on 0 (some 37) (v := ?_) rfl rfl (by kernel_rfl) (by kernel_rfl) (by kernel_rfl) (fun _ _ _ h => h) (by rfl) (by assumption) ?_ ?_; rotate_left; · (intro w hSw; (try dsimp only at hSw); obtain ⟨sm_, sk_, sa_, sh_⟩ := hSw; have cm_ := box1 sm_; have ck_ := box1 sk_; have ca_ := box1 sa_; obtain ⟨x0_, x1_, x2_, x3_, x4_, x5_, x6_, _, _, _, _, _, _, _⟩ := blk7 sh_; go_simp; (try with_reducible rfl)))
      (try simp only [Act.put, List.setIfInBounds_toArray, List.set_cons_zero, List.set_cons_succ])
      (refine take_on 1 (some 38) (v := ?_) rfl rfl (by kernel_rfl) (by kernel_rfl) (by kernel_rfl) (fun _ _ _ h => h) (by rfl) (by assumption) ?_ ?_; rotate_left; · (intro w hSw; (try dsimp only at hSw); obtain ⟨sm_, sk_, sa_, sh_⟩ := hSw; have cm_ := box1 sm_; have ck_ := box1 sk_; have ca_ := box1 sa_; obtain ⟨x0_, x1_, x2_, x3_, x4_, x5_, x6_, _, _, _, _, _, _, _⟩ := blk7 sh_; go_simp; (try with_reducible rfl)))
      (try simp only [Act.put, List.setIfInBounds_toArray, List.set_cons_zero, List.set_cons_succ])
      (refine take_on 2 (some 39) (v := ?_) rfl rfl (by kernel_rfl) (by kernel_rfl) (by kernel_rfl) (fun _ _ _ h => h) (by rfl) (by assumption) ?_ ?_; rotate_left; · (intro w hSw; (try dsimp only at hSw); obtain ⟨sm_, sk_, sa_, sh_⟩ := hSw; have cm_ := box1 sm_; have ck_ := box1 sk_; have ca_ := box1 sa_; obtain ⟨x0_, x1_, x2_, x3_, x4_, x5_, x6_, _, _, _, _, _, _, _⟩ := blk7 sh_; go_simp; (try with_reducible rfl)))
      (try simp only [Act.put, List.setIfInBounds_toArray, List.set_cons_zero, List.set_cons_succ])
      (refine take_on 3 (some 40) (v := ?_) rfl rfl (by kernel_rfl) (by kernel_rfl) (by kernel_rfl) (fun _ _ _ h => h) (by rfl) (by assumption) ?_ ?_; rotate_left; · (intro w hSw; (try dsimp only at hSw); obtain ⟨sm_, sk_, sa_, sh_⟩ := hSw; have cm_ := box1 sm_; have ck_ := box1 sk_; have ca_ := box1 sa_; obtain ⟨x0_, x1_, x2_, x3_, x4_, x5_, x6_, _, _, _, _, _, _, _⟩ := blk7 sh_; go_simp; (try with_reducible rfl)))
      (try simp only [Act.put, List.setIfInBounds_toArray, List.set_cons_zero, List.set_cons_succ])
      (refine take_on 5 (some 42) (v := ?_) rfl rfl (by kernel_rfl) (by kernel_rfl) (by kernel_rfl) (fun _ _ _ h => h) (by rfl) (by assumption) ?_ ?_; rotate_left; · (intro w hSw; (try dsimp only at hSw); obtain ⟨sm_, sk_, sa_, sh_⟩ := hSw; have cm_ := box1 sm_; have ck_ := box1 sk_; have ca_ := box1 sa_; obtain ⟨x0_, x1_, x2_, x3_, x4_, x5_, x6_, _, _, _, _, _, _, _⟩ := blk7 sh_; go_simp; (try with_reducible rfl)))
      (try simp only [Act.put, List.setIfInBounds_toArray, List.set_cons_zero, List.set_cons_succ])
      (refine take_on 6 (some 43) (v := ?_) rfl rfl (by kernel_rfl) (by kernel_rfl) (by kernel_rfl) (fun _ _ _ h => h) (by rfl) (by assumption) ?_ ?_; rotate_left; · (intro w hSw; (try dsimp only at hSw); obtain ⟨sm_, sk_, sa_, sh_⟩ := hSw; have cm_ := box1 sm_; have ck_ := box1 sk_; have ca_ := box1 sa_; obtain ⟨x0_, x1_, x2_, x3_, x4_, x5_, x6_, _, _, _, _, _, _, _⟩ := blk7 sh_; go_simp; (try with_reducible rfl)))
      (try simp only [Act.put, List.setIfInBounds_toArray, List.set_cons_zero, List.set_cons_succ])
      refine wpAnyH_ready (rs := [4]) (by kernel_rfl) (by simp) ?_; refine AllReadyH.cons (o := _) rfl (fun K hK => ?_) AllReadyH.nil
      go_simp
      (go_at_call 72; refine (hW _).mono ?_; rintro e w1 ⟨rfl, k1⟩; have k1 := k1.chg; have k2 : Chg [] wr w1 := ((Chg.refl [] wr).drew).trans k1 (by simp); have B1 := HB.out.far (Far.of_new (F := G7 gm) k2) (by simp [G7]); have H2 := H1.new k2)
      refine hK.out _ _ (by (try dsimp only); exact ⟨hHeld.1.chg_ k1 (by simp), hHeld.2.1.chg_ k1 (by simp), hHeld.2.2.1.chg_ k1 (by simp), hHeld.2.2.2.chg_ k1 (by simp)⟩) (fun hHeld => ?_)
      clear hK K
      (try simp only [Act.put, List.setIfInBounds_toArray, List.set_cons_zero, List.set_cons_succ])
      refine wpAnyH_ready (rs := [7]) (by kernel_rfl) (by simp) ?_; refine AllReadyH.cons (o := _) rfl (fun K hK => ?_) AllReadyH.nil
      go_simp
      (go_at_call 71; refine (hT _ H2).mono ?_; rintro e w2 ⟨rfl, H3, f3⟩; have bo2 := f3.blk B1.bo (by simp [G7]); obtain ⟨r0, r1, r2, r3, z0, z1, z2, z3⟩ := blk4 bo2)
      refine hK.out _ _ (by (try dsimp only); exact ⟨f3.blk hHeld.1 (by simp [G7]), f3.blk hHeld.2.1 (by simp [G7]), f3.blk hHeld.2.2.1 (by simp [G7]), f3.blk hHeld.2.2.2 (by simp [G7])⟩) (fun hHeld => ?_)
      clear hK K
      (try simp only [Act.put, List.setIfInBounds_toArray, List.set_cons_zero, List.set_cons_succ])
      refine wpAnyH_ready (rs := [8]) (by kernel_rfl) (by simp) ?_; refine AllReadyH.cons (o := _) rfl (fun K hK => ?_) AllReadyH.nil
      go_simp
      skip
      refine hK.out _ _ (by (try dsimp only); exact ⟨far4 hHeld.1 (by omega), far4 hHeld.2.1 (by omega), far4 hHeld.2.2.1 (by omega), far4 hHeld.2.2.2 (by omega)⟩) (fun hHeld => ?_)
      clear hK K
      (try simp only [Act.put, List.setIfInBounds_toArray, List.set_cons_zero, List.set_cons_succ])
      refine wpAnyH_done (by kernel_rfl) ?_ _
      refine NoPanic.normal ?_
      go_wp2_with fail
      refine bodyPost_ret (cell_ret rfl (set4 bo2) rfl Tryz.underlying37 rfl (by kernel_rfl)) rfl ?_
      have hk := chg4 (y0 := .int .i64 oh) (y1 := .int .u64 ov) (y2 := .int .i64 oc) (y3 := .int .u64 oa) (g := gm + 4) (Chg.refl [gm + 4] w2) (by simp)
      rw [HAc.out]
      exact ⟨rfl, (H3.turn (by simp [G7]) hk nS.out.1).less (fun i hi => by simp [hi]), (HFr.out.trans ((Far.of_new k2).trans (f3.less (fun i hi => by simp [hi])))).trans ⟨_, hk, by simpa using nF.out 4⟩⟩
end

end Go.Proofs.YtedginkenmafmaaGreatDoor
