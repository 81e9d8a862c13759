/-
 What the laws of fill read off what is known behind a Fill; a page made in a guard's store.
-/
import Derived.Test.YtmbgepafpcbakaaGreatDoorFlMK
import Derived.Test.YtmbgepafpcbakaaGreatDoorG7rK
import Derived.Test.YtmbgepafpcbakaaGreatDoorGS4K
import Derived.Deep.CutRange
namespace Go.Proofs.YtmbgepafpcbakaaGreatDoor
open Go.RowKit Go.Maps
theorem find_of {P : List Pg} {k : Ky} {q : Pg} (h : pgOf P k = some q) : findV P k = q.f ∧ (pgOf P k).isSome = true := by unfold findV; rw [h]; exact ⟨rfl, rfl⟩
theorem trip {α β : Type} {x : α × β × Bool} (h : x.2.2 = true) : x = (x.1, x.2.1, true) := by
 obtain ⟨a, b, c⟩ := x
 simp only at h
 rw [h]
structure SeenF (D : Gd) (tf page f : Int) (r : Rg) : Prop where
 f : walkF 40 D.s.W tf page = f
 r : walkR 40 D.s.W tf page = r
 is : (walkH 40 D.s.W tf page).isSome = true
theorem SeenF.of {D : Gd} {tf page f : Int} {r : Rg} (h : walkH 40 D.s.W tf page = some (f, r)) : SeenF D tf page f r := by
 obtain ⟨h1, h2, h3⟩ := walk_is h
 exact ⟨h1, h2, h3⟩
theorem dirty_seen {d : Gd} (h : FdO d) {root page : Int} {P : Pa} (hp : PathO d.s.W P) : ∃ tf D1 A1 D2 A2, fillG 40 gl16 d root page P false = (D1, A1, true) ∧ fillG 40 gl16 D1 root page P true = (D2, A2, true) ∧ FdO D1 ∧ FdO D2 ∧ findV D1.s.L ⟨root, 3, 0⟩ = tf ∧ (pgOf D1.s.L ⟨root, 3, 0⟩).isSome = true ∧
  SeenF D1 tf page (24 + P.g) ⟨P.r.w && (P.dirty && !protB D1 P.g), P.r.u, P.r.x⟩ ∧ SeenF D2 tf page (24 + P.g) ⟨P.r.w && !protB D2 P.g, P.r.u, P.r.x⟩ := by
 obtain ⟨k1, s1, r1, _, _, q, e, _, v1⟩ := fill_seen h hp (root := root) (page := page) false
 obtain ⟨k2, s2, r2, _, _, q2, e2, t2, v2⟩ := fill_seen k1 (hp.still s1) (root := root) (page := page) true
 have hq : q.f = q2.f := t2 q e
 rw [← hq] at v2
 rw [Bool.or_false] at v1
 rw [Bool.or_true, Bool.true_and] at v2
 obtain ⟨f1, f2⟩ := find_of e
 exact ⟨q.f, _, (fillG 40 gl16 d root page P false).2.1, _, (fillG 40 gl16 (fillG 40 gl16 d root page P false).1 root page P true).2.1, trip r1, trip r2, k1, k2, f1, f2, .of v1, .of v2⟩
theorem finds_seen {d : Gd} (h : FdO d) {root page : Int} {P : Pa} (hp : PathO d.s.W P) (t : Bool) : ∃ tf D A, fillG 40 gl16 d root page P t = (D, A, true) ∧ fillG 40 gl16 D root page P t = (D, [], true) ∧ FdO D ∧ findV D.s.L ⟨root, 3, 0⟩ = tf ∧ (pgOf D.s.L ⟨root, 3, 0⟩).isSome = true ∧
  SeenF D tf page (24 + P.g) ⟨P.r.w && ((P.dirty || t) && !protB D P.g), P.r.u, P.r.x⟩ ∧ allG D.s.W gl16 = allG d.s.W gl16 := by
 obtain ⟨k1, s1, r1, a1, _, q, e, _, v1⟩ := fill_seen h hp (root := root) (page := page) t
 obtain ⟨f1, f2⟩ := find_of e
 exact ⟨q.f, _, (fillG 40 gl16 d root page P t).2.1, trip r1, a1, k1, f1, f2, .of v1, s1.all gl16_in gl16_ap⟩
theorem anew_seen {d : Gd} (h : FdO d) (root page kind : Int) (user : Bool) : ∃ D A b how, fillO d root page kind user = (D, A, b, how) ∧ FdO D ∧ ((b = false ∧ A = []) ∨ (b = true ∧ (pgOf D.s.L ⟨root, 3, 0⟩).isSome = true ∧
  ∀ k : Nat, k < 512 → ∀ x r, walkH 40 D.s.W (findV D.s.L ⟨root, 3, 0⟩) k = some (x, r) → (k : Int) ∈ A ∨ ∃ r0, viewF d root k = some (x, r0) ∧ under r r0 = true)) := by
 have hok := h.fillO root page kind user
 unfold Go.Proofs.YtmbgepafpcbakaaGreatDoor.fillO at hok ⊢
 split
 ·rename_i e
  rw [if_pos e] at hok
  obtain ⟨P, hh, c, e2⟩ := walkO_split d root page kind user
  rw [e2] at e hok ⊢
  have e : hh = 0 := e
  subst e
  have hp := walk_path e2
  obtain ⟨k1, s1, r1, a1, hA, q, e, _, v1⟩ := fill_seen h hp (root := root) (page := page) (decide (kind = 1))
  refine ⟨_, _, _, _, rfl, k1, .inr ⟨r1, (find_of e).2, fun k hk x r hw => ?_⟩⟩
  by_cases hin : (k : Int) ∈ (fillG 40 gl16 d root page P (decide (kind = 1))).2.1
  ·exact .inl hin
  refine .inr (anew_view h k1 hA hk hin ?_)
  rw [(find_of e).1] at hw
  unfold viewF; rw [e, Option.bind_some]; exact hw
 exact ⟨_, _, _, _, rfl, h, .inl ⟨rfl, rfl⟩⟩
theorem view_find {d : Gd} {root : Int} (h : (pgOf d.s.L ⟨root, 3, 0⟩).isSome = true) (page : Int) : viewF d root page = walkH 40 d.s.W (findV d.s.L ⟨root, 3, 0⟩) page := by
 unfold viewF findV
 cases e : pgOf d.s.L ⟨root, 3, 0⟩ with
 | none => rw [e] at h; cases h
 | some q => rfl
theorem view_none {d : Gd} {root : Int} (h : (pgOf d.s.L ⟨root, 3, 0⟩).isSome = false) (page : Int) : viewF d root page = none := by
 unfold viewF
 cases e : pgOf d.s.L ⟨root, 3, 0⟩ with
 | none => rfl
 | some q => rw [e] at h; cases h
theorem tables_slot {d : Gd} (h : FdO d) {j i : Nat} (hi : i < 8) {q : Pg} (hq : d.s.L[j]? = some q) : ∃ x, q.s[i]? = some x ∧ slotV d.s.L q.f i = x ∧ (slotP d.s.L q.f i).isSome = true ∧ i64B x.to_ ∧ 1 ≤ q.k.lev ∧ q.k.lev ≤ 3 ∧
  (x.kind = 0 ∨ x.kind = 1 ∨ x.kind = 2) ∧ (x.kind = 2 → x.r.w = true → protB d x.to_ = false) ∧ (x.kind = 1 → (pgAt d.s.L x.to_).isSome = true ∧ (keyV d.s.L x.to_).lev = q.k.lev - 1) := by
 have hok := h.gd.sr
 have hqm := List.mem_of_getElem? hq
 obtain ⟨x, h1, h2⟩ := hok.slot hqm hi
 have h3 := List.mem_of_getElem? h1
 have hr := hok.right q hqm
 rw [right_iff] at hr
 have hk := hok.kinds q hqm x h3
 have hle := hok.le; have hn := hok.n256
 refine ⟨x, h1, slotV_at h2, by rw [h2]; rfl, ?_, by omega, by omega, ?_, fun a b => h.pr _ _ _ h2 a b, fun a => ?_⟩
 ·rcases hk with ⟨_, rfl⟩ | ⟨_, c, hc, _⟩ | ⟨h4, _⟩
  ·unfold i64B Slt.no; simp only; omega
  ·obtain ⟨c1, c2⟩ := pgAt_mem hc
   have := hok.inL c1
   unfold i64B; omega
  have := (h.lw q hqm i x h1 h4).1
  rw [gl16_len] at this
  unfold i64B; omega
 ·rcases hk with ⟨h4, _⟩ | ⟨h4, _⟩ | ⟨h4, _⟩
  ·exact .inl h4
  ·exact .inr (.inl h4)
  exact .inr (.inr h4)
 rcases hk with ⟨h4, _⟩ | ⟨_, c, hc, hl⟩ | ⟨h4, _⟩
 ·omega
 ·exact ⟨by rw [hc]; rfl, by rw [keyV_at hc]; exact hl⟩
 omega
section
variable {w0 w w' : World} {dd gq mp q hp hb t n a m most wb fq mq mm t2 : Nat} {L : List Int} {d : Gd} {l : List Th}
theorem SepC.kSMake (H : SepC w0 w (gdT dd gq mp q hp hb t n a m most L (d) :: l)) (k : Ky) (G' : GdOk n a m L ⟨makeS n d.s k, d.T, d.l⟩) : Calls Tryz.prog 45 #[.pointer (some ⟨q, 0, none⟩), .agg k.cs] w fun e w' => e = .returned (.tuple #[.int .i64 (makeV d.s k), .bool (makeB d.s k)]) ∧ SepC w0 w' (gdT dd gq mp q hp hb t n a m most L (⟨makeS n d.s k, d.T, d.l⟩) :: l) := by
 obtain ⟨G, v, H1⟩ := H.gO
 exact (H1.at2.sMake k).mono fun _ _ ⟨he, H2⟩ => ⟨he, SepC.gC (d := ⟨makeS n d.s k, d.T, d.l⟩) ⟨G', G.wd.make k, G.rg⟩ H2.bk2⟩
theorem SepC.kWords (H : SepC w0 w (gdT dd gq mp q hp hb t n a m most L (d) :: l)) : Calls Tryz.prog 36 #[.pointer (some ⟨gq, 0, none⟩)] w fun e w' => ∃ A c, e = .returned (.slice A (8 * L.length) c) ∧ SepC w0 w' (ownT (numE .u64) 59 (.slice A (8 * L.length) c) (allG d.s.W L) :: gdT dd gq mp q hp hb t n a m most L (d) :: l) := by
 obtain ⟨G, v, H1⟩ := H.gO
 obtain ⟨S, hgu⟩ := H1.guIn G.ok.map
 exact (GuAll_at gq S mp L hp hb n d.s.W w hgu).mono fun e w' ⟨A, c, h1, h2, h3, h4⟩ => ⟨A, c, h1, H.lay h2 ⟨rfl, ownI_G.1 h3⟩ h4⟩
end
theorem PreO.gd {d : Gd} {j : Nat} (h : PreO d j) : GdOk 40 4 8 gl16 d := h.ok.gd
theorem pool_seen {W : List Int} (hW : W.length = 8 * 40) {j : Nat} (hj : j ≤ 8) {page : Int} {P : Pa} {c : Int} (hwk : walkO (preN W j) 1 page 0 false = (P, 0, c)) : ∃ D A q, fillG 40 gl16 (preN W j) 1 page P false = (D, A, true) ∧ FdO D ∧ findV D.s.L ⟨1, 3, 0⟩ = q ∧ 4 ≤ q ∧ (pgOf D.s.L ⟨1, 3, 0⟩).isSome = true ∧
  (pgOf D.s.L ⟨(atF P 1).1, 2, 0⟩).isSome = true ∧ D.s.L.length = min 8 (j + 3) := by
 have hpre := pre_ok W hW j hj
 have hp := walk_path hwk
 obtain ⟨_, _, _, _, _, hat⟩ := walk_got hwk
 obtain ⟨k1, s1, r1, a1, hA, q, e, _, v1⟩ := fill_seen hpre.ok hp (root := 1) (page := page) false
 obtain ⟨h1, h2⟩ := fill_three hpre hj (page := page) false hp
 rw [hat]
 refine ⟨_, _, q.f, trip r1, k1, (find_of e).1, ?_, (find_of e).2, h2, h1⟩
 have := k1.gd.sr.inL (pgOf_has e).1
 omega
end Go.Proofs.YtmbgepafpcbakaaGreatDoor
