/-
 GmapA, GmapB, GmapC, GmapR, GmapHead, GmapArg in one text.
-/
import Derived.Test.YtmbgepafpcbakaaGreatDoorG0K
import Derived.Test.YtmbgepafpcbakaaGreatDoorProg
import Derived.Deep.RegionWith
import Derived.Deep.QuietTactic
import Derived.Deep.RegionLaw
import Derived.Deep.RegionHeld3
namespace Go.Proofs.YtmbgepafpcbakaaGreatDoor
open Go.RowKit Go.Maps
def OkL (L : List Int) (fr : Int) : Prop := 1 ≤ L.length ∧ L.length ≤ 64 ∧ 1 ≤ fr ∧ fr ≤ 256 ∧ (∀ h ∈ L, 0 ≤ h ∧ h < fr) ∧ L.Nodup
structure GIn (w : World) (p m : Nat) (v : Value) (L : List Int) : Prop where
 st : Blk w p 199 #[v, .map (some m)]
 bk : OwnI w 3 .i64 v L
 mp : IntM Tryz.prog 3 3 w m L.length (locO L)
def GAt (w : World) (S : List Nat) (p : Nat) (L : List Int) : Prop := ∃ m v, GIn w p m v L ∧ S = p :: m :: v.ownBlock.toList ∧ OkL L 256
section
variable {w w' : World} {S T : List Nat} {p m : Nat} {v : Value} {L : List Int}
theorem GIn.c (h : GIn w p m v L) : w.cell? ⟨p, 0, none⟩ = some v ∧ w.cell? ⟨p, 1, none⟩ = some (.map (some m)) := by
 have h0 := h.st.cell 0; have h1 := h.st.cell 1
 simp only [qA, qS, qZ] at h0 h1
 exact ⟨h0, h1⟩
theorem GAt.chg (h : GAt w S p L) (hc : Chg T w w') (hd : ∀ i ∈ S, i ∉ T) : GAt w' S p L := by
 obtain ⟨m, v, h1, rfl, hk⟩ := h
 exact ⟨m, v, ⟨hc.blk h1.st (hd p (by simp)), h1.bk.chg hc (fun g hg => hd g (by simp only [List.mem_cons]; exact .inr (.inr hg))), h1.mp.chg hc (hd m (by simp))⟩, rfl, hk⟩
theorem GAt.self (h : GAt w S p L) (hc : Chg [] w w') : GAt w' S p L := h.chg hc (by simp)
theorem GAt.lt (h : GAt w S p L) : ∀ i ∈ S, i < w.heap.size := by
 obtain ⟨m, v, h1, rfl, _⟩ := h
 intro i hi
 simp only [List.mem_cons] at hi
 rcases hi with rfl | rfl | hi
 ·exact h1.st.lt
 ·exact h1.mp.lt
 exact h1.bk.lt i hi
theorem GAt.ok (h : GAt w S p L) : OkL L 256 := by obtain ⟨_, _, _, _, hk⟩ := h; exact hk
end
def atB (n : Nat) (g : Int) : Bool := decide (0 ≤ g ∧ g < n)
def atV (L : List Int) (g : Int) : Int := if atB L.length g then L.getD g.toNat 0 else 0
set_option maxHeartbeats 400000 in
theorem GMany_at (S : List Nat) (p : Nat) (L : List Int) (w : World) (h : GAt w S p L) :
  Calls Tryz.prog 152 #[.pointer (some ⟨p, 0, none⟩)] w fun e w' => e = .returned (.int .i64 L.length) ∧ w = w' := by
 obtain ⟨m, v, h1, _, _⟩ := h
 obtain ⟨c0, c1⟩ := h1.c
 obtain ⟨A, c, rfl⟩ := h1.bk.form
 clear h1
 go_enter Tryz.func152, Tryz.ntmps152
 go_wp2
 go_ret
 exact ⟨rfl, rfl⟩
set_option maxHeartbeats 1000000 in
theorem GHost_at (S : List Nat) (p : Nat) (L : List Int) (g : Int) (w : World) (h : GAt w S p L) :
  Calls Tryz.prog 84 #[.pointer (some ⟨p, 0, none⟩), .int .i64 g] w fun e w' => e = .returned (.tuple #[.int .i64 (atV L g), .bool (atB L.length g)]) ∧ w = w' := by
 obtain ⟨m, v, h1, _, _⟩ := h
 obtain ⟨c0, c1⟩ := h1.c
 obtain ⟨A, c, rfl⟩ := h1.bk.form
 by_cases hg : 0 ≤ g
 ·by_cases hl : g < L.length
  ·obtain ⟨k, rfl⟩ := Int.eq_ofNat_of_zero_le hg
   have hk : k < L.length := by omega
   obtain ⟨gb, c', e, _⟩ := h1.bk.pos_ (by omega)
   injection e with e1 e2 e3
   subst e1
   have d := h1.bk.cell k hk
   have hb : atB L.length k = true := by simp [atB]; omega
   have hv : atV L k = L.getD k 0 := by unfold atV; rw [hb, if_pos rfl]; simp
   have HB := Lib.hid hb; have HV := Lib.hid hv
   clear h1 hb hv e2 e3
   generalize L.getD k 0 = x at *
   generalize L.length = n at *
   go_enter Tryz.func84, Tryz.ntmps84
   go_wp2
   go_ret2
   exact ⟨by rw [HB.out, HV.out]; rfl, rfl⟩
  have hb : atB L.length g = false := by simp [atB]; omega
  have hv : atV L g = 0 := by unfold atV; rw [hb]; rfl
  have HB := Lib.hid hb; have HV := Lib.hid hv
  clear h1 hb hv
  generalize L.length = n at *
  go_enter Tryz.func84, Tryz.ntmps84
  go_wp2
  go_ret2
  exact ⟨by rw [HB.out, HV.out]; rfl, rfl⟩
 have hb : atB L.length g = false := by simp [atB]; omega
 have hv : atV L g = 0 := by unfold atV; rw [hb]; rfl
 have HB := Lib.hid hb; have HV := Lib.hid hv
 clear h1 hb hv
 generalize L.length = n at *
 go_enter Tryz.func84, Tryz.ntmps84
 go_wp2
 go_ret2
 exact ⟨by rw [HB.out, HV.out]; rfl, rfl⟩
set_option maxHeartbeats 400000 in
theorem Clone_at (A : Option Addr) (n c : Nat) (L : List Int) (w : World) (h : SlK .i64 w A n L) (hn : n ≤ 1000000) :
  Calls Tryz.prog 77 #[.slice A n c] w fun e w' => ∃ v, e = .returned v ∧ Chg [] w w' ∧ OwnI w' 3 .i64 v L ∧ ∀ g ∈ v.ownBlock.toList, w.heap.size ≤ g := by
 have hlen := h.len
 obtain ⟨i0, hi0, hz0, hz1, hz2⟩ := info_parts int_info
 have q22 : ∀ (w : World) (a : Option Addr) (n c n' c' : Nat), (binOp .eql 43 (.slice a n c) (.slice none n' c')).run Tryz.prog w = .ok (.bool a.isNone) w := fun w a n c n' c' => Lib.run_eql_slice_nil w _ _ a n c n' c' Tryz.underlying43
 cases A with
 | none =>
  have hn0 : n = 0 := by
   rcases Nat.eq_zero_or_pos n with h0 | h0
   ·exact h0
   obtain ⟨b, off, e, _⟩ := h.at_ h0; cases e
  subst hn0
  obtain rfl := List.eq_nil_of_length_eq_zero hlen
  clear h hlen
  go_enter Tryz.func77, Tryz.ntmps77
  go_wp2
  go_ret
  exact ⟨_, rfl, Chg.refl _ _, OwnI.none_ _ _ _, by simp [Value.ownBlock]⟩
 | some a =>
  have hs := (h.chg ((Chg.refl [] w).alloc (.cells #[] 3))).src (c := c) (by simp)
  clear h
  go_enter Tryz.func77, Tryz.ntmps77
  go_wp2_with (at_builtin; refine wpList_append_src rfl _ _ 43 rfl w.heap.size 3 i0 _ 1 8 Tryz.underlying43 hi0 hz0 hz1 hz2 rfl (by omega) _ _ _ rfl (World.ownsRow_made w #[] 0 (Nat.le_refl _) (Nat.zero_le _) (by simp)) (some a) n c (vals .i64 L) rfl hs (by simp [maxLen]; omega) (by omega) (by simp) ?_; intro v3 w3 hown3 hc3 hv3)
  go_wp2
  go_ret
  have hown : OwnI w3 3 .i64 v3 L := by
   unfold OwnI
   rw [hlen]
   have := hown3
   simp only [List.nil_append, Nat.zero_add] at this
   exact ⟨this.1, by
    rcases this.2 with h0 | ⟨g, c', cur, hv, hg, hr⟩
    ·exact .inl h0
    exact .inr ⟨g, c', cur, hv, Nat.zero_le _, hr⟩⟩
  refine ⟨v3, rfl, ?_, hown, ?_⟩
  ·exact ((Chg.refl [] w).alloc _).trans hc3 (by intro i hi hm; rw [Option.mem_toList] at hm; change some w.heap.size = some i at hm; injection hm with hm; omega)
  intro g hg
  have hg' : v3.ownBlock = some g := by simpa using hg
  rcases hown3.2 with ⟨e, _⟩ | ⟨g', c', cur, hv, hg2, _⟩
  ·subst e; simp [Value.ownBlock] at hg'
  subst hv; simp [Value.ownBlock] at hg'; omega
def OkTo (L : List Int) (fr : Int) (k : Nat) : Prop := (∀ h ∈ L.take k, 0 ≤ h ∧ h < fr) ∧ (L.take k).Nodup
theorem take_snoc (L : List Int) (k : Nat) (hk : k < L.length) : L.take (k + 1) = L.take k ++ [L.getD k 0] := by
 rw [List.take_succ_eq_append_getElem hk]
 simp [List.getD_eq_getElem?_getD, List.getElem?_eq_getElem hk]
theorem OkTo.succ {L : List Int} {fr : Int} {k : Nat} (h : OkTo L fr k) (hk : k < L.length) (h0 : 0 ≤ L.getD k 0) (h1 : L.getD k 0 < fr) (hn : (L.take k).contains (L.getD k 0) = false) : OkTo L fr (k + 1) := by
 have hn' : L.getD k 0 ∉ L.take k := fun hm => by rw [List.contains_iff_mem.2 hm] at hn; cases hn
 unfold OkTo
 rw [take_snoc L k hk]
 refine ⟨fun x hx => ?_, ?_⟩
 ·rw [List.mem_append, List.mem_singleton] at hx
  rcases hx with hx | rfl
  ·exact h.1 x hx
  exact ⟨h0, h1⟩
 rw [List.nodup_append]
 refine ⟨h.2, by simp, ?_⟩
 intro a ha b hb e
 rw [List.mem_singleton] at hb
 subst hb; subst e; exact hn' ha
theorem ok_bad {L : List Int} {fr : Int} {k : Nat} (hk : k < L.length) (h : L.getD k 0 < 0 ∨ fr ≤ L.getD k 0 ∨ (L.take k).contains (L.getD k 0) = true) : ¬ OkL L fr := by
 rintro ⟨_, _, _, _, h1, h2⟩
 have hm : L.getD k 0 ∈ L := by
  simp only [List.getD_eq_getElem?_getD, List.getElem?_eq_getElem hk, Option.getD_some]; exact List.getElem_mem hk
 have := h1 _ hm
 rcases h with h | h | h
 ·omega
 ·omega
 have e : L.take (k + 1) = L.take k ++ [L.getD k 0] := take_snoc L k hk
 have hs := List.Pairwise.sublist (List.take_sublist (k + 1) L) h2
 rw [e] at hs
 rw [← List.nodup_iff_pairwise_ne, List.nodup_append] at hs
 exact hs.2.2 _ (List.contains_iff_mem.1 h) _ (List.mem_singleton.2 rfl) rfl
theorem getD_wf {L : List Int} (h : ∀ x ∈ L, IntKind.i64.min ≤ x ∧ x ≤ IntKind.i64.max) (k : Nat) (hk : k < L.length) : -9223372036854775808 ≤ L.getD k 0 ∧ L.getD k 0 ≤ 9223372036854775807 := by
 have hm : L.getD k 0 ∈ L := by
  simp only [List.getD_eq_getElem?_getD, List.getElem?_eq_getElem hk, Option.getD_some]; exact List.getElem_mem hk
 have := h _ hm
 simpa [IntKind.min, IntKind.max, IntKind.signed, IntKind.bits] using this
theorem blkc2 {w : World} {g : Nat} {t : TypeId} {u0 u1 : Value} (h : Blk w g t #[u0, u1]) : w.cell? ⟨g, 0, none⟩ = some u0 ∧ w.cell? ⟨g, 1, none⟩ = some u1 := by
 have h0 := h.cell 0; have h1 := h.cell 1
 simp only [qA, qS, qZ] at h0 h1
 exact ⟨h0, h1⟩
set_option maxRecDepth 100000 in
set_option maxHeartbeats 4000000 in
theorem GNew_in (A : Option Addr) (n c : Nat) (L : List Int) (fr : Int) (w : World) (h : SlK .i64 w A n L) (h1 : 1 ≤ n ∧ n ≤ 64) (h2 : 1 ≤ fr ∧ fr ≤ 256) :
  Calls Tryz.prog 47 #[.slice A n c, .int .i64 fr] w fun e w' => (e = .returned (.pointer none) ∧ Chg [] w w' ∧ ¬ OkL L fr) ∨ ∃ p S, e = .returned (.pointer (some ⟨p, 0, none⟩)) ∧ Chg [] w w' ∧ GAt w' S p L ∧ (∀ i ∈ S, w.heap.size ≤ i) ∧ OkL L fr := by
 have hlen := h.len
 have hwf := h.wf
 have HWF := Lib.hid hwf
 clear hwf
 have hmm : ∀ (w : World) (k : Int), (Instr.makeMap 197 (some (.int .i64 k))).run Tryz.prog w = .ok (.map (some w.heap.size)) (w.alloc (.map #[] 0)) := fun w k => rfl
 go_enter Tryz.func47, Tryz.ntmps47
 go_wp2_with fail
 go_region_with (go_at_call 77; refine (Clone_at A n c L _ ?_ (by omega)).mono ?_; (first | exact h.drew | exact h.chg ((Chg.refl [] w).drew.alloc _)); rintro e w1 ⟨v, rfl, hc1, ho1, hg1⟩; obtain ⟨gb, k1, rfl, hk1, hk2⟩ := ho1.pos_ (by omega))
 ·subst hlen
  have hgz : w.heap.size ≤ gb := hg1 gb (by simp [Value.ownBlock])
  have hcw : Chg [] w w1 := (Chg.refl [] w).drew.trans hc1 (by simp)
  have hcy := (hcw.alloc (.map #[] 0)).alloc (Obj.cells #[Value.slice (some ⟨gb, 0, none⟩) L.length k1, Value.map (some w1.heap.size)] 199)
  have hbk := (ho1.alloc (.map #[] 0)).alloc (Obj.cells #[Value.slice (some ⟨gb, 0, none⟩) L.length k1, Value.map (some w1.heap.size)] 199)
  have hmp := (IntM.made w1 Tryz.prog 3 3).chg (T := []) ((Chg.refl [] _).alloc (Obj.cells #[Value.slice (some ⟨gb, 0, none⟩) L.length k1, Value.map (some w1.heap.size)] 199)) (by simp)
  have hst := Blk.new (w1.alloc (Obj.map #[] 0)) 199 #[Value.slice (some ⟨gb, 0, none⟩) L.length k1, Value.map (some w1.heap.size)]
  rw [show (w1.alloc (Obj.map #[] 0)).heap.size = w1.heap.size + 1 by simp] at hst
  have hpz : w.heap.size ≤ w1.heap.size + 1 := by have := hcw.size; omega
  have hmz : w.heap.size ≤ w1.heap.size := hcw.size
  clear hcw
  generalize (w1.alloc (Obj.map #[] 0)).alloc (Obj.cells #[Value.slice (some ⟨gb, 0, none⟩) L.length k1, Value.map (some w1.heap.size)] 199) = w3 at *
  generalize w1.heap.size + 1 = p at *
  generalize w1.heap.size = m at *
  clear hc1 ho1 hg1 hk1 h
  clear hmm
  have hmp0 : IntM Tryz.prog 3 3 w3 m 0 (locO (L.take 0)) := hmp.congr fun x => rfl
  have hpm : m ≠ p := hmp.blk_ne hst
  have hgp : gb ≠ p := by obtain ⟨cur, hb⟩ := hbk.blk (g := gb) (by simp [Value.ownBlock]); exact hb.type_ne hst (by decide)
  have hgm : m ≠ gb := by obtain ⟨cur, hb⟩ := hbk.blk (g := gb) (by simp [Value.ownBlock]); exact hmp.blk_ne hb
  obtain ⟨c0, c1⟩ := blkc2 hst
  go_wp2_with fail
  go_loopw [38] (fun i w' => ∃ k : Nat, k ≤ L.length ∧ i = .int .i64 k ∧ Chg [] w w' ∧ Blk w' p 199 #[.slice (some ⟨gb, 0, none⟩) L.length k1, .map (some m)] ∧ OwnI w' 3 .i64 (.slice (some ⟨gb, 0, none⟩) L.length k1) L ∧ IntM Tryz.prog 3 3 w' m k (locO (L.take k)) ∧ OkTo L fr k) (fun i _ => L.length - (intOf i).toNat)
  case atStart => exact ⟨0, by omega, rfl, hcy, hst, hbk, hmp0, by simp [OkTo]⟩
  clear hcy hst hbk hmp0 hmp c0 c1
  obtain ⟨k, hk, rfl, hcy, hst, hbk, hmp, hok⟩ := hrel
  obtain ⟨c0, c1⟩ := blkc2 hst
  by_cases hlt : k < L.length
  ·have d := hbk.cell k hlt
   have hxw := getD_wf HWF.out k hlt
   obtain ⟨x, hx⟩ : ∃ x, L.getD k 0 = x := ⟨_, rfl⟩
   rw [hx] at d hxw
   have HX := Lib.hid hx
   have hkey := WalkArith.wf_i64 hxw
   clear hx
   cases hF : locO (L.take k) x with
   | some q =>
    have hbad : ¬ OkL L fr := by
     refine ok_bad hlt (.inr (.inr ?_))
     rw [HX.out, ← locO_some, hF]; rfl
    have HBAD := Lib.hid hbad
    clear hbad
    go_wp2_with (at_lookup; refine wpList_lookup_intM_some rfl _ _ 197 rfl lawI Tryz.underlying197 Tryz.underlying3 Tryz.underlying3 (zeroI _) m _ _ rfl hmp x rfl hkey q hF ?_)
    go_ret
    exact .inl ⟨rfl, hcy, HBAD.out⟩
   | none =>
    have hnot : (L.take k).contains x = false := by rw [← locO_some, hF]; rfl
    have HNOT := Lib.hid hnot
    clear hnot
    by_cases hx0 : x < 0
    ·go_wp2_with (at_lookup; refine wpList_lookup_intM_none rfl _ _ 197 rfl lawI Tryz.underlying197 Tryz.underlying3 Tryz.underlying3 (zeroI _) m _ _ rfl hmp x rfl hkey hF ?_)
     go_ret
     exact .inl ⟨rfl, hcy, ok_bad hlt (.inl (by rw [HX.out]; exact hx0))⟩
    by_cases hx1 : fr ≤ x
    ·go_wp2_with (at_lookup; refine wpList_lookup_intM_none rfl _ _ 197 rfl lawI Tryz.underlying197 Tryz.underlying3 Tryz.underlying3 (zeroI _) m _ _ rfl hmp x rfl hkey hF ?_)
     go_ret
     exact .inl ⟨rfl, hcy, ok_bad hlt (.inr (.inl (by rw [HX.out]; exact hx1)))⟩
    have hok' : OkTo L fr (k + 1) := hok.succ hlt (by rw [HX.out]; omega) (by rw [HX.out]; omega) (by rw [HX.out]; exact HNOT.out)
    have hkw : (Lit.int .i64 (k : Int)).wf = true := WalkArith.wf_i64 (by omega)
    go_wp2_with (first
     | (at_lookup; refine wpList_lookup_intM_none rfl _ _ 197 rfl lawI Tryz.underlying197 Tryz.underlying3 Tryz.underlying3 (zeroI _) m _ _ rfl hmp x rfl hkey hF ?_)
     | (at_mapUpdate; refine wpList_store_intM rfl _ _ _ 197 rfl lawI Tryz.underlying197 Tryz.underlying3 Tryz.underlying3 m _ _ rfl hmp (by simp [maxLen]; omega) x k rfl rfl hkey hkw ?_; intro w4 hmp4 hc4))
    go_roundw
    case rel =>
     refine ⟨k + 1, by omega, by go_num, hcy.trans hc4 (by intro i hi hm; simp at hm; omega), hc4.blk hst (by simp; omega), hbk.chg hc4 (by simpa [Value.ownBlock] using fun e => hgm e.symm), hmp4.congr fun y => ?_, hok'⟩
     rw [take_snoc L k hlt, HX.out, locO_snoc _ _ _ HNOT.out, List.length_take, Nat.min_eq_left hk]
    case measure => simp [intOf]; omega
  obtain rfl : k = L.length := by omega
  go_wp2_with fail
  go_ret
  rw [List.take_length] at hmp
  unfold OkTo at hok
  rw [List.take_length] at hok
  refine .inr ⟨p, _, rfl, hcy, ⟨m, _, ⟨hst, hbk, hmp⟩, rfl, h1.1, h1.2, by omega, by omega, fun x hx => by have := hok.1 x hx; omega, hok.2⟩, ?_, h1.1, h1.2, h2.1, h2.2, hok.1, hok.2⟩
  intro i hi
  simp [Value.ownBlock] at hi
  rcases hi with rfl | rfl | rfl
  ·exact hpz
  ·exact hmz
  exact hgz
 subst hlen
 have hgz : w.heap.size ≤ gb := by have := hg1 gb (by simp [Value.ownBlock]); simp at this; omega
 have hcw : Chg [] w w1 := ((Chg.refl [] w).alloc (.map #[] 0)).drew.trans hc1 (by simp)
 have hcy := hcw.alloc (Obj.cells #[Value.slice (some ⟨gb, 0, none⟩) L.length k1, Value.map (some w.heap.size)] 199)
 have hbk := ho1.alloc (Obj.cells #[Value.slice (some ⟨gb, 0, none⟩) L.length k1, Value.map (some w.heap.size)] 199)
 have hmp := ((IntM.made w Tryz.prog 3 3).chg (T := []) ((Chg.refl [] _).drew.trans hc1 (by simp)) (by simp)).chg (T := []) ((Chg.refl [] _).alloc (Obj.cells #[Value.slice (some ⟨gb, 0, none⟩) L.length k1, Value.map (some w.heap.size)] 199)) (by simp)
 have hst := Blk.new w1 199 #[Value.slice (some ⟨gb, 0, none⟩) L.length k1, Value.map (some w.heap.size)]
 have hpz : w.heap.size ≤ w1.heap.size := hcw.size
 have hmz : w.heap.size ≤ w.heap.size := Nat.le_refl _
 clear hcw
 generalize w1.alloc (Obj.cells #[Value.slice (some ⟨gb, 0, none⟩) L.length k1, Value.map (some w.heap.size)] 199) = w3 at *
 generalize w1.heap.size = p at *
 generalize hmw : w.heap.size = m at hmp hst
 have HMW := Lib.hid hmw
 have hmz : w.heap.size ≤ m := by omega
 clear hmw
 clear hc1 ho1 hg1 hk1 h
 clear hmm
 have hmp0 : IntM Tryz.prog 3 3 w3 m 0 (locO (L.take 0)) := hmp.congr fun x => rfl
 have hpm : m ≠ p := hmp.blk_ne hst
 have hgp : gb ≠ p := by obtain ⟨cur, hb⟩ := hbk.blk (g := gb) (by simp [Value.ownBlock]); exact hb.type_ne hst (by decide)
 have hgm : m ≠ gb := by obtain ⟨cur, hb⟩ := hbk.blk (g := gb) (by simp [Value.ownBlock]); exact hmp.blk_ne hb
 obtain ⟨c0, c1⟩ := blkc2 hst
 go_wp2_with fail
 go_loopw [38] (fun i w' => ∃ k : Nat, k ≤ L.length ∧ i = .int .i64 k ∧ Chg [] w w' ∧ Blk w' p 199 #[.slice (some ⟨gb, 0, none⟩) L.length k1, .map (some m)] ∧ OwnI w' 3 .i64 (.slice (some ⟨gb, 0, none⟩) L.length k1) L ∧ IntM Tryz.prog 3 3 w' m k (locO (L.take k)) ∧ OkTo L fr k) (fun i _ => L.length - (intOf i).toNat)
 case atStart => exact ⟨0, by omega, rfl, hcy, hst, hbk, hmp0, by simp [OkTo]⟩
 clear hcy hst hbk hmp0 hmp c0 c1
 obtain ⟨k, hk, rfl, hcy, hst, hbk, hmp, hok⟩ := hrel
 obtain ⟨c0, c1⟩ := blkc2 hst
 by_cases hlt : k < L.length
 ·have d := hbk.cell k hlt
  have hxw := getD_wf HWF.out k hlt
  obtain ⟨x, hx⟩ : ∃ x, L.getD k 0 = x := ⟨_, rfl⟩
  rw [hx] at d hxw
  have HX := Lib.hid hx
  have hkey := WalkArith.wf_i64 hxw
  clear hx
  cases hF : locO (L.take k) x with
  | some q =>
   have hbad : ¬ OkL L fr := by
    refine ok_bad hlt (.inr (.inr ?_))
    rw [HX.out, ← locO_some, hF]; rfl
   have HBAD := Lib.hid hbad
   clear hbad
   go_wp2_with (at_lookup; refine wpList_lookup_intM_some rfl _ _ 197 rfl lawI Tryz.underlying197 Tryz.underlying3 Tryz.underlying3 (zeroI _) m _ _ rfl hmp x rfl hkey q hF ?_)
   go_ret
   exact .inl ⟨rfl, hcy, HBAD.out⟩
  | none =>
   have hnot : (L.take k).contains x = false := by rw [← locO_some, hF]; rfl
   have HNOT := Lib.hid hnot
   clear hnot
   by_cases hx0 : x < 0
   ·go_wp2_with (at_lookup; refine wpList_lookup_intM_none rfl _ _ 197 rfl lawI Tryz.underlying197 Tryz.underlying3 Tryz.underlying3 (zeroI _) m _ _ rfl hmp x rfl hkey hF ?_)
    go_ret
    exact .inl ⟨rfl, hcy, ok_bad hlt (.inl (by rw [HX.out]; exact hx0))⟩
   by_cases hx1 : fr ≤ x
   ·go_wp2_with (at_lookup; refine wpList_lookup_intM_none rfl _ _ 197 rfl lawI Tryz.underlying197 Tryz.underlying3 Tryz.underlying3 (zeroI _) m _ _ rfl hmp x rfl hkey hF ?_)
    go_ret
    exact .inl ⟨rfl, hcy, ok_bad hlt (.inr (.inl (by rw [HX.out]; exact hx1)))⟩
   have hok' : OkTo L fr (k + 1) := hok.succ hlt (by rw [HX.out]; omega) (by rw [HX.out]; omega) (by rw [HX.out]; exact HNOT.out)
   have hkw : (Lit.int .i64 (k : Int)).wf = true := WalkArith.wf_i64 (by omega)
   go_wp2_with (first
    | (at_lookup; refine wpList_lookup_intM_none rfl _ _ 197 rfl lawI Tryz.underlying197 Tryz.underlying3 Tryz.underlying3 (zeroI _) m _ _ rfl hmp x rfl hkey hF ?_)
    | (at_mapUpdate; refine wpList_store_intM rfl _ _ _ 197 rfl lawI Tryz.underlying197 Tryz.underlying3 Tryz.underlying3 m _ _ rfl hmp (by simp [maxLen]; omega) x k rfl rfl hkey hkw ?_; intro w4 hmp4 hc4))
   go_roundw
   case rel =>
    refine ⟨k + 1, by omega, by go_num, hcy.trans hc4 (by intro i hi hm; simp at hm; omega), hc4.blk hst (by simp; omega), hbk.chg hc4 (by simpa [Value.ownBlock] using fun e => hgm e.symm), hmp4.congr fun y => ?_, hok'⟩
    rw [take_snoc L k hlt, HX.out, locO_snoc _ _ _ HNOT.out, List.length_take, Nat.min_eq_left hk]
   case measure => simp [intOf]; omega
 obtain rfl : k = L.length := by omega
 go_wp2_with fail
 go_ret
 rw [List.take_length] at hmp
 unfold OkTo at hok
 rw [List.take_length] at hok
 refine .inr ⟨p, _, rfl, hcy, ⟨m, _, ⟨hst, hbk, hmp⟩, rfl, h1.1, h1.2, by omega, by omega, fun x hx => by have := hok.1 x hx; omega, hok.2⟩, ?_, h1.1, h1.2, h2.1, h2.2, hok.1, hok.2⟩
 intro i hi
 simp [Value.ownBlock] at hi
 rcases hi with rfl | rfl | rfl
 ·exact hpz
 ·exact hmz
 exact hgz
set_option maxHeartbeats 1000000 in
theorem GNew_out (A : Option Addr) (n c : Nat) (fr : Int) (w : World) (h : n < 1 ∨ 64 < n ∨ fr < 1 ∨ 256 < fr) (hn : n ≤ 9223372036854775807) :
  Calls Tryz.prog 47 #[.slice A n c, .int .i64 fr] w fun e w' => e = .returned (.pointer none) ∧ w = w' := by
 by_cases h1 : n < 1
 ·clear h
  have h1' : (n : Int) < 1 := by omega
  go_enter Tryz.func47, Tryz.ntmps47
  go_wp2
  all_goals go_ret
  all_goals exact ⟨rfl, rfl⟩
 have h1' : ¬ (n : Int) < 1 := by omega
 by_cases h2 : 64 < n
 ·clear h
  have h2' : (64 : Int) < (n : Int) := by omega
  go_enter Tryz.func47, Tryz.ntmps47
  go_wp2
  all_goals go_ret
  all_goals exact ⟨rfl, rfl⟩
 have h2' : ¬ (64 : Int) < (n : Int) := by omega
 by_cases h3 : fr < 1
 ·clear h
  go_enter Tryz.func47, Tryz.ntmps47
  go_wp2
  all_goals go_ret
  all_goals exact ⟨rfl, rfl⟩
 have h4 : 256 < fr := by omega
 clear h
 go_enter Tryz.func47, Tryz.ntmps47
 go_wp2
 all_goals go_ret
 all_goals exact ⟨rfl, rfl⟩
def NewEnd (At : World → List Nat → Nat → List Int → Prop) (L : List Int) (fr : Int) (w : World) (e : Ending) (w' : World) : Prop :=
 (e = .returned (.pointer none) ∧ Chg [] w w' ∧ ¬ OkL L fr) ∨ ∃ p S, e = .returned (.pointer (some ⟨p, 0, none⟩)) ∧ Chg [] w w' ∧ At w' S p L ∧ (∀ i ∈ S, w.heap.size ≤ i) ∧ OkL L fr
theorem GNew_at (A : Option Addr) (n c : Nat) (L : List Int) (fr : Int) (w : World) (h : SlK .i64 w A n L) :
  Calls Tryz.prog 47 #[.slice A n c, .int .i64 fr] w (NewEnd GAt L fr w) := by
 by_cases hin : (1 ≤ n ∧ n ≤ 64) ∧ (1 ≤ fr ∧ fr ≤ 256)
 ·exact GNew_in A n c L fr w h hin.1 hin.2
 refine (GNew_out A n c fr w (by omega) h.le).mono fun e w' he => .inl ⟨he.1, he.2 ▸ Chg.refl _ _, ?_⟩
 rintro ⟨k1, k2, k3, k4, _⟩
 have := h.len
 omega
theorem GNew_ok (A : Option Addr) (n c : Nat) (L : List Int) (fr : Int) (w : World) (h : SlK .i64 w A n L) (hok : OkL L fr) :
  Calls Tryz.prog 47 #[.slice A n c, .int .i64 fr] w fun e w' => ∃ p S, e = .returned (.pointer (some ⟨p, 0, none⟩)) ∧ Chg [] w w' ∧ GAt w' S p L ∧ ∀ i ∈ S, w.heap.size ≤ i :=
 (GNew_at A n c L fr w h).mono fun _ _ he => he.elim (fun k => absurd hok k.2.2) fun ⟨p, S, k1, k2, k3, k4, _⟩ => ⟨p, S, k1, k2, k3, k4⟩
section
variable {w w' : World} {S T : List Nat} {p : Nat} {L : List Int}
end
theorem GHost_is (S : List Nat) (p : Nat) (L : List Int) (g : Int) (x : Int) (t : Bool) (w : World) (h : GAt w S p L) (hx : atV L g = x) (ht : atB L.length g = t) :
  Calls Tryz.prog 84 #[.pointer (some ⟨p, 0, none⟩), .int .i64 g] w fun e w' => e = .returned (.tuple #[.int .i64 x, .bool t]) ∧ w = w' := hx ▸ ht ▸ GHost_at S p L g w h
theorem own_any {w : World} {base n : Nat} {t : TypeId} {k : IntKind} {v : Value} {L : List Int} (h : w.ownsRow base t 1 v n (vals k L)) (hl : L.length = n) : OwnI w t k v L := by
 subst hl
 exact ⟨h.1, by
  rcases h.2 with h0 | ⟨g, c', cur, hv, hg, hr⟩
  ·exact .inl h0
  exact .inr ⟨g, c', cur, hv, Nat.zero_le _, hr⟩⟩
end Go.Proofs.YtmbgepafpcbakaaGreatDoor
