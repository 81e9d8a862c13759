/-
  Conf's iterator over frames; slices.AppendSeq and Collect behind it; Right, Image, Foreign.
-/
import Derived.Test.YtkggkdjhecagnaaConfB
import Derived.Test.YtkggkdjhecagnaaG0
namespace Go.Proofs.Ytkggkdjhecagnaa
open Go.RowKit Go.Maps Go.Shelf

attribute [local go_sem] Oper.semAt_some

theorem takeIn_off {F : Fence} {n : Nat} {P : Program} {md : Region.Mode} {ops : Array Oper} {Q : Exit → Act → World → Prop} (i : Nat) (d : Option Tmp) {oi : Oper} {fuel : Nat} {listed : Array Bool} {a : Act} {w : World} (hro : F.round = none) (hi : ops[i]? = some oi) (hd : oi.dst = d)
    (hs : Region.noSelect ops = true) (hf : Region.free md ops listed i = true) (hr : (Region.ready md ops listed).contains i = true)
    (hQ : ∀ c a w, Q (.panic c) (a.put oi.dst undef) w → Q (.panic c) a w) (hw : Region.wanted oi (yielded ops a.tmps) = false) (hb : ∀ w, oi.about P w a.eval = none)
    (h : wpAnyIn F n P md ops Q fuel (listed.setIfInBounds i true) (a.put d undef) w) : wpAnyIn F n P md ops Q (fuel + 1) listed a w :=
  wpAnyIn_take hro hi hs hf hr hQ ⟨.inr ⟨hw, rfl⟩, hb⟩ (hd ▸ h)
theorem takeIn_on {F : Fence} {n : Nat} {P : Program} {md : Region.Mode} {ops : Array Oper} {Q : Exit → Act → World → Prop} (i : Nat) (d : Option Tmp) {oi : Oper} {v : Value} {fuel : Nat} {listed : Array Bool} {a : Act} {w : World} (hro : F.round = none) (hi : ops[i]? = some oi) (hd : oi.dst = d)
    (hs : Region.noSelect ops = true) (hf : Region.free md ops listed i = true) (hr : (Region.ready md ops listed).contains i = true)
    (hQ : ∀ c a w, Q (.panic c) (a.put oi.dst v) w → Q (.panic c) a w) (hw : Region.wanted oi (yielded ops a.tmps) = true) (hb : ∀ w, oi.about P w a.eval = none) (hy : ∀ w, (execOp a.eval oi).run P w = .ok (.value v) w)
    (h : wpAnyIn F n P md ops Q fuel (listed.setIfInBounds i true) (a.put d v) w) : wpAnyIn F n P md ops Q (fuel + 1) listed a w :=
  wpAnyIn_take hro hi hs hf hr hQ ⟨.inl ⟨hw, hy⟩, hb⟩ (hd ▸ h)

/-- what a round keeps: all maps, and all cells but numbers' and rows of numbers -/
def KpC (W W' : World) : Prop := KeepsWalks W W' ∧ ∀ (k : Nat) (cs : Array Value) (t : TypeId) (f : Nat × Nat), (t == 3) = false → (t == 22) = false → W.heap[k]? = some (Obj.cells cs t f) → W'.heap[k]? = some (Obj.cells cs t f)
theorem KpC.t {A B C : World} (h : KpC A B) (k : KpC B C) : KpC A C := ⟨h.1.trans k.1, fun i cs t f h1 h2 ho => k.2 i cs t f h1 h2 (h.2 i cs t f h1 h2 ho)⟩
theorem KpC.b (W : World) (l : Nat) (o o' : Obj) (h : W.heap[l]? = some o) (hc : o.isCells = false) (hw : o.isWalk = false) : KpC W (W.putObj l o') :=
  ⟨KeepsWalks.putObj _ h hw, fun i cs t f _ _ hi => by
    have hne : i ≠ l := fun e => by
      subst e
      rw [h] at hi; injection hi with hi; subst hi; cases hc
    exact ((grownBy_putObj' W l o').block i (Array.getElem?_eq_some_iff.1 hi).1 (fun e => hne (Option.some.inj e))).trans hi⟩
theorem KpC.new {W W' : World} (h : Chg [] W W') : KpC W W' :=
  ⟨⟨h.size, fun k _ hk _ => (h.block k (Array.getElem?_eq_some_iff.1 hk).1 (by simp)).trans hk⟩, fun k _ _ _ _ _ hk => (h.block k (Array.getElem?_eq_some_iff.1 hk).1 (by simp)).trans hk⟩
theorem KpC.blk {W W' : World} (h : KpC W W') {g : Nat} {t : TypeId} {cs : Array Value} (hb : Blk W g t cs) (h1 : (t == 3) = false) (h2 : (t == 22) = false) : Blk W' g t cs := h.2 g _ _ _ h1 h2 hb
theorem KpC.gw {W W' : World} (h : KpC W W') {p : Nat} {L : List Int} (H : GW W p L) : GW W' p L := by
  obtain ⟨m, v, n, h1, D, h2, h3⟩ := H
  refine ⟨m, v, n, h.blk h1 (by decide) (by decide), D, ?_, h3⟩
  obtain ⟨es, clock, hb, r⟩ := h2
  exact ⟨es, clock, h.1.same m _ hb rfl, r⟩
theorem KpC.fw {W W' : World} (h : KpC W W') {q a n : Nat} (H : FW W q a n) : FW W' q a n := by
  obtain ⟨m, c, v, h1, ⟨D, h2, h3⟩, h4⟩ := H
  refine ⟨m, c, v, h.blk h1 (by decide) (by decide), ⟨D, ?_, h3⟩, h4⟩
  obtain ⟨es, clock, hb, r⟩ := h2
  exact ⟨es, clock, h.1.same m _ hb rfl, r⟩

/-- the host's frames that are somebody's -/
def selB (c : Cf) (ov : Int) (f : Int) : Bool := ownV c.map c.first.toNat c.many.toNat f == ov
noncomputable def selL (c : Cf) (ov : Int) : List Int := if c.right then pickF (selB c ov) c.host.toNat else []
theorem selL_no {c : Cf} {ov : Int} (h : ¬ c.Ok) : selL c ov = [] := by unfold selL; rw [Cf.right_no h]; rfl
theorem selL_of {c : Cf} {ov : Int} (h : c.Ok) : selL c ov = pickF (selB c ov) c.host.toNat := by unfold selL; rw [if_pos ((Cf.right_iff c).2 h)]
theorem selL_img {c : Cf} : selL c 1 = c.image := by
  unfold selL Cf.image
  congr 1
  apply pickF_congr
  intro x _ _
  unfold selB ownV Cf.img
  cases c.map.contains x
  · cases poolB c.first.toNat c.many.toNat x <;> rfl
  · rfl
theorem selL_frn {c : Cf} : selL c 0 = c.foreign := by
  by_cases h : c.Ok
  · rw [selL_of h, Cf.foreign_of h]
    apply pickF_congr
    intro x _ _
    have h2 := h.first; have h3 := h.many
    have e : poolB c.first.toNat c.many.toNat x = c.pool x := by
      unfold poolB Cf.pool
      rw [Bool.eq_iff_iff, decide_eq_true_eq, decide_eq_true_eq]; omega
    unfold selB ownV Cf.frn
    rw [e]
    cases c.map.contains x
    · cases c.pool x <;> rfl
    · rfl
  · rw [selL_no h, Cf.foreign_no h]
theorem selL_len (c : Cf) (ov : Int) : (selL c ov).length ≤ 256 := by
  by_cases h : c.Ok
  · rw [selL_of h]
    have := pickF_le (selB c ov) c.host.toNat
    have := h.host
    omega
  · rw [selL_no h]; simp

set_option maxRecDepth 100000 in
set_option maxHeartbeats 8000000 in
theorem frames1_in (d l cb ob : Nat) (c : Cf) (A : Option Addr) (n k : Nat) (ov : Int) (J Jx : List Int → World → Prop) (W1 : World) (hJ : AbidesFrom W1.heap.size J)
    (hY : ∀ pre x W2, J pre W2 → pre.length < 256 → YieldAt Fence.wide (d - 1) Try.prog l #[.int .i64 x] W2 fun e W' => (e = .returned (.bool true) ∧ J (pre ++ [x]) W' ∧ KpC W2 W') ∨ (e = .returned (.bool false) ∧ Jx (pre ++ [x]) W'))
    (hs : SlK .i64 W1 A n c.map) (hw : c.Wf) (hcb : Blk W1 cb 24 (c.cs A n k)) (hob : Blk W1 ob 46 #[.int .i64 ov]) (h0 : J [] W1) :
    CallsIn Fence.wide d Try.prog 30 #[.func (.yield l) #[] #[], .pointer (some ⟨cb, 0, none⟩), .pointer (some ⟨ob, 0, none⟩)] W1 fun e W' => (∃ v, e = .returned v) ∧
      ((∃ ys, ys = selL c ov ∧ J ys W') ∨ (∃ pre, True ∧ Jx pre W')) := by
  refine callsIn_of_wp Try.func30 rfl trivial ?_ rfl
  simp only [Try.ntmps30, List.size_toArray, List.length_cons, List.length_nil, Nat.reduceAdd, Nat.reduceSub, Array.replicate_succ, Array.replicate_zero, List.push_toArray, List.append_toArray, List.nil_append, List.cons_append]
  have hM := made_at c A n k W1 hs hw
  clear hs hw
  obtain ⟨T, hT⟩ : ∃ T, selL c ov = T := ⟨_, rfl⟩
  have hno : ¬ c.Ok → T = [] := fun h => hT ▸ selL_no h
  have hyes : c.Ok → T = pickF (selB c ov) c.host.toNat ∧ 1 ≤ c.host ∧ c.host ≤ 256 := fun h => ⟨hT ▸ selL_of h, h.host⟩
  rw [hT]
  clear hT
  unfold MadeP at hM
  have HSEL : Hid (∀ x, selB c ov x = (ownV c.map c.first.toNat c.many.toNat x == ov)) := Lib.hid fun _ => rfl
  generalize selB c ov = sel at *
  have hM2 := hM
  clear hM
  generalize c.Ok = OK at *
  obtain ⟨h, L, f, m, t, a, r⟩ := c
  unfold Cf.cs at *
  simp only at *
  obtain ⟨c0, c1, c2, c3, c4, c5, c6⟩ := cfc7 hcb
  have o0 : W1.cell? ⟨ob, 0, none⟩ = some (.int .i64 ov) := hob.cell 0
  have HNO := Lib.hid hno
  have HYES := Lib.hid hyes
  clear hno hyes
  gi_wp2
  (first | refine ⟨trivial, (fun hh => by cases hh), ?_⟩ | refine ⟨(fun hh => by cases hh), ?_⟩ | skip)
  refine (callsIn_wide.2 hM2).mono ?_; rintro e w2 ⟨y2, (⟨rfl, hn⟩ | ⟨p, q, rfl, hgw, hfw, hok⟩)⟩
  · have HN := Lib.hid hn
    clear hn hM2
    gi_wp2
    refine bodyPost_ret (results_none rfl _ _ _) rfl ?_
    exact ⟨⟨_, rfl⟩, .inl ⟨_, (HNO.out HN.out).symm, hJ _ _ _ none (hJ _ _ _ none h0 (Cells.grown y2) (fun r e => by cases e)) (World.grownBy_alloc _ _ none) (fun r e => by cases e)⟩⟩
  · clear hM2 c0 c1 c2 c3 c4 c5 c6 o0
    have y3 := y2.alloc (.cells #[.pointer (some ⟨p, 0, none⟩), .pointer (some ⟨q, 0, none⟩)] 34)
    have hg3 := Blk.new w2 34 #[.pointer (some ⟨p, 0, none⟩), .pointer (some ⟨q, 0, none⟩)]
    replace hgw := hgw.new ((Chg.refl [] w2).alloc (.cells #[.pointer (some ⟨p, 0, none⟩), .pointer (some ⟨q, 0, none⟩)] 34))
    replace hfw := hfw.new ((Chg.refl [] w2).alloc (.cells #[.pointer (some ⟨p, 0, none⟩), .pointer (some ⟨q, 0, none⟩)] 34))
    have hJ3 := hJ _ _ _ none h0 (Cells.grown y3) (fun r e => by cases e)
    replace hcb := hcb.chg_ y3 (by simp)
    replace hob := hob.chg_ y3 (by simp)
    have hsz := y3.size
    obtain ⟨hTT, hh1, hh2⟩ := HYES.out hok
    clear HYES HNO hok
    obtain ⟨H, rfl⟩ := Int.eq_ofNat_of_zero_le (show 0 ≤ h by omega)
    rw [show ((H : Int)).toNat = H from rfl] at hTT
    have HTT := Lib.hid hTT
    clear hTT
    obtain ⟨c0, c1, c2, c3, c4, c5, c6⟩ := cfc7 hcb
    clear hcb c1 c2 c3 c4 c5 c6
    gi_wp2
    generalize hww : w2.alloc (.cells #[.pointer (some ⟨p, 0, none⟩), .pointer (some ⟨q, 0, none⟩)] 34) = w3 at *
    generalize w2.heap.size = g at *
    clear hww y2 y3 h0
    gi_loopw [6, 16] (fun _ s wr => ∃ (j : Nat), j ≤ H ∧ s = .int .i64 j ∧ Blk wr g 34 #[.pointer (some ⟨p, 0, none⟩), .pointer (some ⟨q, 0, none⟩)] ∧ Blk wr ob 46 #[.int .i64 ov] ∧ GW wr p L ∧ FW wr q f.toNat m.toNat ∧ J (pickF sel j) wr ∧ W1.heap.size ≤ wr.heap.size) (fun _ s _ => H - (intOf s).toNat)
    case atStart => exact ⟨0, by omega, rfl, hg3, hob, hgw, hfw, hJ3, hsz⟩
    case round =>
      obtain ⟨j, hj, rfl, hgk, hok, hgw2, hfw2, hJj, hsj⟩ := hrel
      clear hg3 hob hgw hfw hJ3 hsz c0
      by_cases hlt : j < H
      · have hltz : (j : Int) < (H : Int) := by omega
        obtain ⟨m0, m1⟩ := blkc2 hgk
        have o0 : wr.cell? ⟨ob, 0, none⟩ = some (.int .i64 ov) := hok.cell 0
        have hOwn := owner_any p q f.toNat m.toNat L j _ (hgw2.new (Chg.refl [] wr).drew) (hfw2.new (Chg.refl [] wr).drew) (by unfold I64; omega)
        have hsj2 := HSEL.out j
        generalize ownV L f.toNat m.toNat j = z at *
        generalize htb : sel j = tb at *
        have HSJ := Lib.hid htb
        clear htb
        replace hsj2 := hsj2.symm
        gi_wp2
        refine wpIn_region_any (by kernel_rfl) ?_
        (refine takeIn_on 1 (some 20) (v := ?_) rfl rfl rfl (by kernel_rfl) (by kernel_rfl) (by kernel_rfl) (fun _ _ _ h => h) (by rfl) (fun _ => rfl) ?_ ?_; rotate_left; · (intro w; go_simp; (try with_reducible rfl)))
        (try simp only [Act.put, List.setIfInBounds_toArray, List.set_cons_zero, List.set_cons_succ])
        refine wpAnyIn_ready (rs := [0, 3]) (by kernel_rfl) (by simp) ?_; refine AllReadyIn.cons (o := _) rfl (fun K hK => ?_) (AllReadyIn.cons (o := _) rfl (fun K hK => ?_) (AllReadyIn.nil))
        · go_simp
          refine hK _ _ ?_
          clear hK K
          (try simp only [Act.put, List.setIfInBounds_toArray, List.set_cons_zero, List.set_cons_succ])
          refine wpAnyIn_ready (rs := [2, 3]) (by kernel_rfl) (by simp) ?_; refine AllReadyIn.cons (o := _) rfl (fun K hK => ?_) (AllReadyIn.cons (o := _) rfl (fun K hK => ?_) (AllReadyIn.nil))
          · go_simp
            gi_wp2
            (first | refine ⟨trivial, (fun hh => by cases hh), ?_⟩ | refine ⟨(fun hh => by cases hh), ?_⟩ | refine ⟨trivial, ?_⟩ | skip)
            refine (callsIn_wide.2 hOwn).mono ?_; rintro e u ⟨rfl, yu⟩
            refine hK _ _ ?_
            clear hK K
            (try simp only [Act.put, List.setIfInBounds_toArray, List.set_cons_zero, List.set_cons_succ])
            replace yu : Chg [] wr u := (Chg.refl [] wr).drew.trans yu (by simp)
            have o1 : u.cell? ⟨ob, 0, none⟩ = some (.int .i64 ov) := (hok.chg_ yu (by simp)).cell 0
            refine wpAnyIn_ready (rs := [3]) (by kernel_rfl) (by simp) ?_; refine AllReadyIn.cons (o := _) rfl (fun K hK => ?_) (AllReadyIn.nil)
            go_simp
            refine hK _ _ ?_
            clear hK K
            (try simp only [Act.put, List.setIfInBounds_toArray, List.set_cons_zero, List.set_cons_succ])
            (refine takeIn_on 4 (some 23) (v := ?_) rfl rfl rfl (by kernel_rfl) (by kernel_rfl) (by kernel_rfl) (fun _ _ _ h => h) (by rfl) (fun _ => rfl) ?_ ?_; rotate_left; · (intro w; go_simp; (try with_reducible rfl)))
            (try simp only [Act.put, List.setIfInBounds_toArray, List.set_cons_zero, List.set_cons_succ])
            (refine takeIn_on 5 (some 24) (v := ?_) rfl rfl rfl (by kernel_rfl) (by kernel_rfl) (by kernel_rfl) (fun _ _ _ h => h) (by rfl) (fun _ => rfl) ?_ ?_; rotate_left; · (intro w; go_simp; (try with_reducible rfl)))
            (try simp only [Act.put, List.setIfInBounds_toArray, List.set_cons_zero, List.set_cons_succ])
            cases tb with
            | false =>
              (refine takeIn_off 6 (some 25) rfl rfl rfl (by kernel_rfl) (by kernel_rfl) (by kernel_rfl) (fun _ _ _ h => h) (by rfl) (fun _ => rfl) ?_)
              (try simp only [Act.put, List.setIfInBounds_toArray, List.set_cons_zero, List.set_cons_succ])
              (refine takeIn_off 7 (some 26) rfl rfl rfl (by kernel_rfl) (by kernel_rfl) (by kernel_rfl) (fun _ _ _ h => h) (by rfl) (fun _ => rfl) ?_)
              (try simp only [Act.put, List.setIfInBounds_toArray, List.set_cons_zero, List.set_cons_succ])
              (refine takeIn_off 8 (some 27) rfl rfl rfl (by kernel_rfl) (by kernel_rfl) (by kernel_rfl) (fun _ _ _ h => h) (by rfl) (fun _ => rfl) ?_)
              (try simp only [Act.put, List.setIfInBounds_toArray, List.set_cons_zero, List.set_cons_succ])
              (refine takeIn_off 9 (some 28) rfl rfl rfl (by kernel_rfl) (by kernel_rfl) (by kernel_rfl) (fun _ _ _ h => h) (by rfl) (fun _ => rfl) ?_)
              (try simp only [Act.put, List.setIfInBounds_toArray, List.set_cons_zero, List.set_cons_succ])
              (refine takeIn_on 10 (some 29) (v := ?_) rfl rfl rfl (by kernel_rfl) (by kernel_rfl) (by kernel_rfl) (fun _ _ _ h => h) (by rfl) (fun _ => rfl) ?_ ?_; rotate_left; · (intro w; go_simp; (try with_reducible rfl)))
              (try simp only [Act.put, List.setIfInBounds_toArray, List.set_cons_zero, List.set_cons_succ])
              refine wpAnyIn_done (by kernel_rfl) ?_ _
              have hps : pickF sel (j + 1) = pickF sel j := by rw [pickF_succ, HSJ.out]; simp
              have HPS := Lib.hid hps
              clear hps hY hOwn o0 o1 m0 m1 hsj2
              gi_wp2
              go_roundw
              case rel => exact ⟨j + 1, by omega, by go_num, hgk.chg_ yu (by simp), hok.chg_ yu (by simp), hgw2.new yu, hfw2.new yu, by rw [HPS.out]; exact hJ _ _ _ none hJj (Cells.grown yu) (fun r e => by cases e), Nat.le_trans hsj yu.size⟩
              case measure => simp [intOf]; omega
            | true =>
              (refine takeIn_on 6 (some 25) (v := ?_) rfl rfl rfl (by kernel_rfl) (by kernel_rfl) (by kernel_rfl) (fun _ _ _ h => h) (by rfl) (fun _ => rfl) ?_ ?_; rotate_left; · (intro w; go_simp; (try with_reducible rfl)))
              (try simp only [Act.put, List.setIfInBounds_toArray, List.set_cons_zero, List.set_cons_succ])
              (refine takeIn_on 7 (some 26) (v := ?_) rfl rfl rfl (by kernel_rfl) (by kernel_rfl) (by kernel_rfl) (fun _ _ _ h => h) (by rfl) (fun _ => rfl) ?_ ?_; rotate_left; · (intro w; go_simp; (try with_reducible rfl)))
              (try simp only [Act.put, List.setIfInBounds_toArray, List.set_cons_zero, List.set_cons_succ])
              have hps : pickF sel (j + 1) = pickF sel j ++ [(j : Int)] := by rw [pickF_succ, HSJ.out]; simp
              have hlen : (pickF sel j).length < 256 := by have := pickF_le sel j; omega
              obtain ⟨fn, tmps, assign, body, hy, hR⟩ := hY (pickF sel j) j u (hJ _ _ _ none hJj (Cells.grown yu) (fun r e => by cases e)) hlen
              have HPS := Lib.hid hps
              clear hps hY o0 o1 m0 m1 hOwn
              refine wpAnyIn_ready (rs := [8]) (by kernel_rfl) (by simp) ?_; refine AllReadyIn.cons (o := _) rfl (fun K hK => ?_) (AllReadyIn.nil)
              go_simp
              gi_wp2
              (first | refine ⟨trivial, (fun hh => by cases hh), ?_⟩ | refine ⟨(fun hh => by cases hh), ?_⟩ | refine ⟨trivial, ?_⟩ | skip)
              refine hR.mono ?_; rintro e W5 (⟨rfl, hJ5, hk5⟩ | ⟨rfl, hJx5⟩)
              · refine hK _ _ ?_
                clear hK K hR hy
                (try simp only [Act.put, List.setIfInBounds_toArray, List.set_cons_zero, List.set_cons_succ])
                (refine takeIn_on 9 (some 28) (v := ?_) rfl rfl rfl (by kernel_rfl) (by kernel_rfl) (by kernel_rfl) (fun _ _ _ h => h) (by rfl) (fun _ => rfl) ?_ ?_; rotate_left; · (intro w; go_simp; (try with_reducible rfl)))
                (try simp only [Act.put, List.setIfInBounds_toArray, List.set_cons_zero, List.set_cons_succ])
                (refine takeIn_on 10 (some 29) (v := ?_) rfl rfl rfl (by kernel_rfl) (by kernel_rfl) (by kernel_rfl) (fun _ _ _ h => h) (by rfl) (fun _ => rfl) ?_ ?_; rotate_left; · (intro w; go_simp; (try with_reducible rfl)))
                (try simp only [Act.put, List.setIfInBounds_toArray, List.set_cons_zero, List.set_cons_succ])
                refine wpAnyIn_done (by kernel_rfl) ?_ _
                gi_wp2
                go_roundw
                case rel => exact ⟨j + 1, by omega, by go_num, hk5.blk (hgk.chg_ yu (by simp)) (by decide) (by decide), hk5.blk (hok.chg_ yu (by simp)) (by decide) (by decide), hk5.gw (hgw2.new yu), hk5.fw (hfw2.new yu), by rw [HPS.out]; exact hJ5, Nat.le_trans hsj (Nat.le_trans yu.size hk5.1.size)⟩
                case measure => simp [intOf]; omega
              · refine hK _ _ ?_
                clear hK K hR hy
                (try simp only [Act.put, List.setIfInBounds_toArray, List.set_cons_zero, List.set_cons_succ])
                (refine takeIn_on 9 (some 28) (v := ?_) rfl rfl rfl (by kernel_rfl) (by kernel_rfl) (by kernel_rfl) (fun _ _ _ h => h) (by rfl) (fun _ => rfl) ?_ ?_; rotate_left; · (intro w; go_simp; (try with_reducible rfl)))
                (try simp only [Act.put, List.setIfInBounds_toArray, List.set_cons_zero, List.set_cons_succ])
                (refine takeIn_on 10 (some 29) (v := ?_) rfl rfl rfl (by kernel_rfl) (by kernel_rfl) (by kernel_rfl) (fun _ _ _ h => h) (by rfl) (fun _ => rfl) ?_ ?_; rotate_left; · (intro w; go_simp; (try with_reducible rfl)))
                (try simp only [Act.put, List.setIfInBounds_toArray, List.set_cons_zero, List.set_cons_succ])
                refine wpAnyIn_done (by kernel_rfl) ?_ _
                gi_wp2
                refine bodyPost_ret (results_none rfl _ _ _) rfl ?_
                exact ⟨⟨_, rfl⟩, .inr (by first | exact ⟨_, trivial, hJx5⟩ | exact ⟨_, hJx5⟩)⟩
          · go_simp
            refine hK _ _ ?_
            clear hK K
            (try simp only [Act.put, List.setIfInBounds_toArray, List.set_cons_zero, List.set_cons_succ])
            refine wpAnyIn_ready (rs := [2]) (by kernel_rfl) (by simp) ?_; refine AllReadyIn.cons (o := _) rfl (fun K hK => ?_) (AllReadyIn.nil)
            go_simp
            gi_wp2
            (first | refine ⟨trivial, (fun hh => by cases hh), ?_⟩ | refine ⟨(fun hh => by cases hh), ?_⟩ | refine ⟨trivial, ?_⟩ | skip)
            refine (callsIn_wide.2 hOwn).mono ?_; rintro e u ⟨rfl, yu⟩
            refine hK _ _ ?_
            clear hK K
            (try simp only [Act.put, List.setIfInBounds_toArray, List.set_cons_zero, List.set_cons_succ])
            replace yu : Chg [] wr u := (Chg.refl [] wr).drew.trans yu (by simp)
            have o1 : u.cell? ⟨ob, 0, none⟩ = some (.int .i64 ov) := (hok.chg_ yu (by simp)).cell 0
            (refine takeIn_on 4 (some 23) (v := ?_) rfl rfl rfl (by kernel_rfl) (by kernel_rfl) (by kernel_rfl) (fun _ _ _ h => h) (by rfl) (fun _ => rfl) ?_ ?_; rotate_left; · (intro w; go_simp; (try with_reducible rfl)))
            (try simp only [Act.put, List.setIfInBounds_toArray, List.set_cons_zero, List.set_cons_succ])
            (refine takeIn_on 5 (some 24) (v := ?_) rfl rfl rfl (by kernel_rfl) (by kernel_rfl) (by kernel_rfl) (fun _ _ _ h => h) (by rfl) (fun _ => rfl) ?_ ?_; rotate_left; · (intro w; go_simp; (try with_reducible rfl)))
            (try simp only [Act.put, List.setIfInBounds_toArray, List.set_cons_zero, List.set_cons_succ])
            cases tb with
            | false =>
              (refine takeIn_off 6 (some 25) rfl rfl rfl (by kernel_rfl) (by kernel_rfl) (by kernel_rfl) (fun _ _ _ h => h) (by rfl) (fun _ => rfl) ?_)
              (try simp only [Act.put, List.setIfInBounds_toArray, List.set_cons_zero, List.set_cons_succ])
              (refine takeIn_off 7 (some 26) rfl rfl rfl (by kernel_rfl) (by kernel_rfl) (by kernel_rfl) (fun _ _ _ h => h) (by rfl) (fun _ => rfl) ?_)
              (try simp only [Act.put, List.setIfInBounds_toArray, List.set_cons_zero, List.set_cons_succ])
              (refine takeIn_off 8 (some 27) rfl rfl rfl (by kernel_rfl) (by kernel_rfl) (by kernel_rfl) (fun _ _ _ h => h) (by rfl) (fun _ => rfl) ?_)
              (try simp only [Act.put, List.setIfInBounds_toArray, List.set_cons_zero, List.set_cons_succ])
              (refine takeIn_off 9 (some 28) rfl rfl rfl (by kernel_rfl) (by kernel_rfl) (by kernel_rfl) (fun _ _ _ h => h) (by rfl) (fun _ => rfl) ?_)
              (try simp only [Act.put, List.setIfInBounds_toArray, List.set_cons_zero, List.set_cons_succ])
              (refine takeIn_on 10 (some 29) (v := ?_) rfl rfl rfl (by kernel_rfl) (by kernel_rfl) (by kernel_rfl) (fun _ _ _ h => h) (by rfl) (fun _ => rfl) ?_ ?_; rotate_left; · (intro w; go_simp; (try with_reducible rfl)))
              (try simp only [Act.put, List.setIfInBounds_toArray, List.set_cons_zero, List.set_cons_succ])
              refine wpAnyIn_done (by kernel_rfl) ?_ _
              have hps : pickF sel (j + 1) = pickF sel j := by rw [pickF_succ, HSJ.out]; simp
              have HPS := Lib.hid hps
              clear hps hY hOwn o0 o1 m0 m1 hsj2
              gi_wp2
              go_roundw
              case rel => exact ⟨j + 1, by omega, by go_num, hgk.chg_ yu (by simp), hok.chg_ yu (by simp), hgw2.new yu, hfw2.new yu, by rw [HPS.out]; exact hJ _ _ _ none hJj (Cells.grown yu) (fun r e => by cases e), Nat.le_trans hsj yu.size⟩
              case measure => simp [intOf]; omega
            | true =>
              (refine takeIn_on 6 (some 25) (v := ?_) rfl rfl rfl (by kernel_rfl) (by kernel_rfl) (by kernel_rfl) (fun _ _ _ h => h) (by rfl) (fun _ => rfl) ?_ ?_; rotate_left; · (intro w; go_simp; (try with_reducible rfl)))
              (try simp only [Act.put, List.setIfInBounds_toArray, List.set_cons_zero, List.set_cons_succ])
              (refine takeIn_on 7 (some 26) (v := ?_) rfl rfl rfl (by kernel_rfl) (by kernel_rfl) (by kernel_rfl) (fun _ _ _ h => h) (by rfl) (fun _ => rfl) ?_ ?_; rotate_left; · (intro w; go_simp; (try with_reducible rfl)))
              (try simp only [Act.put, List.setIfInBounds_toArray, List.set_cons_zero, List.set_cons_succ])
              have hps : pickF sel (j + 1) = pickF sel j ++ [(j : Int)] := by rw [pickF_succ, HSJ.out]; simp
              have hlen : (pickF sel j).length < 256 := by have := pickF_le sel j; omega
              obtain ⟨fn, tmps, assign, body, hy, hR⟩ := hY (pickF sel j) j u (hJ _ _ _ none hJj (Cells.grown yu) (fun r e => by cases e)) hlen
              have HPS := Lib.hid hps
              clear hps hY o0 o1 m0 m1 hOwn
              refine wpAnyIn_ready (rs := [8]) (by kernel_rfl) (by simp) ?_; refine AllReadyIn.cons (o := _) rfl (fun K hK => ?_) (AllReadyIn.nil)
              go_simp
              gi_wp2
              (first | refine ⟨trivial, (fun hh => by cases hh), ?_⟩ | refine ⟨(fun hh => by cases hh), ?_⟩ | refine ⟨trivial, ?_⟩ | skip)
              refine hR.mono ?_; rintro e W5 (⟨rfl, hJ5, hk5⟩ | ⟨rfl, hJx5⟩)
              · refine hK _ _ ?_
                clear hK K hR hy
                (try simp only [Act.put, List.setIfInBounds_toArray, List.set_cons_zero, List.set_cons_succ])
                (refine takeIn_on 9 (some 28) (v := ?_) rfl rfl rfl (by kernel_rfl) (by kernel_rfl) (by kernel_rfl) (fun _ _ _ h => h) (by rfl) (fun _ => rfl) ?_ ?_; rotate_left; · (intro w; go_simp; (try with_reducible rfl)))
                (try simp only [Act.put, List.setIfInBounds_toArray, List.set_cons_zero, List.set_cons_succ])
                (refine takeIn_on 10 (some 29) (v := ?_) rfl rfl rfl (by kernel_rfl) (by kernel_rfl) (by kernel_rfl) (fun _ _ _ h => h) (by rfl) (fun _ => rfl) ?_ ?_; rotate_left; · (intro w; go_simp; (try with_reducible rfl)))
                (try simp only [Act.put, List.setIfInBounds_toArray, List.set_cons_zero, List.set_cons_succ])
                refine wpAnyIn_done (by kernel_rfl) ?_ _
                gi_wp2
                go_roundw
                case rel => exact ⟨j + 1, by omega, by go_num, hk5.blk (hgk.chg_ yu (by simp)) (by decide) (by decide), hk5.blk (hok.chg_ yu (by simp)) (by decide) (by decide), hk5.gw (hgw2.new yu), hk5.fw (hfw2.new yu), by rw [HPS.out]; exact hJ5, Nat.le_trans hsj (Nat.le_trans yu.size hk5.1.size)⟩
                case measure => simp [intOf]; omega
              · refine hK _ _ ?_
                clear hK K hR hy
                (try simp only [Act.put, List.setIfInBounds_toArray, List.set_cons_zero, List.set_cons_succ])
                (refine takeIn_on 9 (some 28) (v := ?_) rfl rfl rfl (by kernel_rfl) (by kernel_rfl) (by kernel_rfl) (fun _ _ _ h => h) (by rfl) (fun _ => rfl) ?_ ?_; rotate_left; · (intro w; go_simp; (try with_reducible rfl)))
                (try simp only [Act.put, List.setIfInBounds_toArray, List.set_cons_zero, List.set_cons_succ])
                (refine takeIn_on 10 (some 29) (v := ?_) rfl rfl rfl (by kernel_rfl) (by kernel_rfl) (by kernel_rfl) (fun _ _ _ h => h) (by rfl) (fun _ => rfl) ?_ ?_; rotate_left; · (intro w; go_simp; (try with_reducible rfl)))
                (try simp only [Act.put, List.setIfInBounds_toArray, List.set_cons_zero, List.set_cons_succ])
                refine wpAnyIn_done (by kernel_rfl) ?_ _
                gi_wp2
                refine bodyPost_ret (results_none rfl _ _ _) rfl ?_
                exact ⟨⟨_, rfl⟩, .inr (by first | exact ⟨_, trivial, hJx5⟩ | exact ⟨_, hJx5⟩)⟩
        · go_simp
          refine hK _ _ ?_
          clear hK K
          (try simp only [Act.put, List.setIfInBounds_toArray, List.set_cons_zero, List.set_cons_succ])
          refine wpAnyIn_ready (rs := [0]) (by kernel_rfl) (by simp) ?_; refine AllReadyIn.cons (o := _) rfl (fun K hK => ?_) (AllReadyIn.nil)
          go_simp
          refine hK _ _ ?_
          clear hK K
          (try simp only [Act.put, List.setIfInBounds_toArray, List.set_cons_zero, List.set_cons_succ])
          refine wpAnyIn_ready (rs := [2]) (by kernel_rfl) (by simp) ?_; refine AllReadyIn.cons (o := _) rfl (fun K hK => ?_) (AllReadyIn.nil)
          go_simp
          gi_wp2
          (first | refine ⟨trivial, (fun hh => by cases hh), ?_⟩ | refine ⟨(fun hh => by cases hh), ?_⟩ | refine ⟨trivial, ?_⟩ | skip)
          refine (callsIn_wide.2 hOwn).mono ?_; rintro e u ⟨rfl, yu⟩
          refine hK _ _ ?_
          clear hK K
          (try simp only [Act.put, List.setIfInBounds_toArray, List.set_cons_zero, List.set_cons_succ])
          replace yu : Chg [] wr u := (Chg.refl [] wr).drew.trans yu (by simp)
          have o1 : u.cell? ⟨ob, 0, none⟩ = some (.int .i64 ov) := (hok.chg_ yu (by simp)).cell 0
          (refine takeIn_on 4 (some 23) (v := ?_) rfl rfl rfl (by kernel_rfl) (by kernel_rfl) (by kernel_rfl) (fun _ _ _ h => h) (by rfl) (fun _ => rfl) ?_ ?_; rotate_left; · (intro w; go_simp; (try with_reducible rfl)))
          (try simp only [Act.put, List.setIfInBounds_toArray, List.set_cons_zero, List.set_cons_succ])
          (refine takeIn_on 5 (some 24) (v := ?_) rfl rfl rfl (by kernel_rfl) (by kernel_rfl) (by kernel_rfl) (fun _ _ _ h => h) (by rfl) (fun _ => rfl) ?_ ?_; rotate_left; · (intro w; go_simp; (try with_reducible rfl)))
          (try simp only [Act.put, List.setIfInBounds_toArray, List.set_cons_zero, List.set_cons_succ])
          cases tb with
          | false =>
            (refine takeIn_off 6 (some 25) rfl rfl rfl (by kernel_rfl) (by kernel_rfl) (by kernel_rfl) (fun _ _ _ h => h) (by rfl) (fun _ => rfl) ?_)
            (try simp only [Act.put, List.setIfInBounds_toArray, List.set_cons_zero, List.set_cons_succ])
            (refine takeIn_off 7 (some 26) rfl rfl rfl (by kernel_rfl) (by kernel_rfl) (by kernel_rfl) (fun _ _ _ h => h) (by rfl) (fun _ => rfl) ?_)
            (try simp only [Act.put, List.setIfInBounds_toArray, List.set_cons_zero, List.set_cons_succ])
            (refine takeIn_off 8 (some 27) rfl rfl rfl (by kernel_rfl) (by kernel_rfl) (by kernel_rfl) (fun _ _ _ h => h) (by rfl) (fun _ => rfl) ?_)
            (try simp only [Act.put, List.setIfInBounds_toArray, List.set_cons_zero, List.set_cons_succ])
            (refine takeIn_off 9 (some 28) rfl rfl rfl (by kernel_rfl) (by kernel_rfl) (by kernel_rfl) (fun _ _ _ h => h) (by rfl) (fun _ => rfl) ?_)
            (try simp only [Act.put, List.setIfInBounds_toArray, List.set_cons_zero, List.set_cons_succ])
            (refine takeIn_on 10 (some 29) (v := ?_) rfl rfl rfl (by kernel_rfl) (by kernel_rfl) (by kernel_rfl) (fun _ _ _ h => h) (by rfl) (fun _ => rfl) ?_ ?_; rotate_left; · (intro w; go_simp; (try with_reducible rfl)))
            (try simp only [Act.put, List.setIfInBounds_toArray, List.set_cons_zero, List.set_cons_succ])
            refine wpAnyIn_done (by kernel_rfl) ?_ _
            have hps : pickF sel (j + 1) = pickF sel j := by rw [pickF_succ, HSJ.out]; simp
            have HPS := Lib.hid hps
            clear hps hY hOwn o0 o1 m0 m1 hsj2
            gi_wp2
            go_roundw
            case rel => exact ⟨j + 1, by omega, by go_num, hgk.chg_ yu (by simp), hok.chg_ yu (by simp), hgw2.new yu, hfw2.new yu, by rw [HPS.out]; exact hJ _ _ _ none hJj (Cells.grown yu) (fun r e => by cases e), Nat.le_trans hsj yu.size⟩
            case measure => simp [intOf]; omega
          | true =>
            (refine takeIn_on 6 (some 25) (v := ?_) rfl rfl rfl (by kernel_rfl) (by kernel_rfl) (by kernel_rfl) (fun _ _ _ h => h) (by rfl) (fun _ => rfl) ?_ ?_; rotate_left; · (intro w; go_simp; (try with_reducible rfl)))
            (try simp only [Act.put, List.setIfInBounds_toArray, List.set_cons_zero, List.set_cons_succ])
            (refine takeIn_on 7 (some 26) (v := ?_) rfl rfl rfl (by kernel_rfl) (by kernel_rfl) (by kernel_rfl) (fun _ _ _ h => h) (by rfl) (fun _ => rfl) ?_ ?_; rotate_left; · (intro w; go_simp; (try with_reducible rfl)))
            (try simp only [Act.put, List.setIfInBounds_toArray, List.set_cons_zero, List.set_cons_succ])
            have hps : pickF sel (j + 1) = pickF sel j ++ [(j : Int)] := by rw [pickF_succ, HSJ.out]; simp
            have hlen : (pickF sel j).length < 256 := by have := pickF_le sel j; omega
            obtain ⟨fn, tmps, assign, body, hy, hR⟩ := hY (pickF sel j) j u (hJ _ _ _ none hJj (Cells.grown yu) (fun r e => by cases e)) hlen
            have HPS := Lib.hid hps
            clear hps hY o0 o1 m0 m1 hOwn
            refine wpAnyIn_ready (rs := [8]) (by kernel_rfl) (by simp) ?_; refine AllReadyIn.cons (o := _) rfl (fun K hK => ?_) (AllReadyIn.nil)
            go_simp
            gi_wp2
            (first | refine ⟨trivial, (fun hh => by cases hh), ?_⟩ | refine ⟨(fun hh => by cases hh), ?_⟩ | refine ⟨trivial, ?_⟩ | skip)
            refine hR.mono ?_; rintro e W5 (⟨rfl, hJ5, hk5⟩ | ⟨rfl, hJx5⟩)
            · refine hK _ _ ?_
              clear hK K hR hy
              (try simp only [Act.put, List.setIfInBounds_toArray, List.set_cons_zero, List.set_cons_succ])
              (refine takeIn_on 9 (some 28) (v := ?_) rfl rfl rfl (by kernel_rfl) (by kernel_rfl) (by kernel_rfl) (fun _ _ _ h => h) (by rfl) (fun _ => rfl) ?_ ?_; rotate_left; · (intro w; go_simp; (try with_reducible rfl)))
              (try simp only [Act.put, List.setIfInBounds_toArray, List.set_cons_zero, List.set_cons_succ])
              (refine takeIn_on 10 (some 29) (v := ?_) rfl rfl rfl (by kernel_rfl) (by kernel_rfl) (by kernel_rfl) (fun _ _ _ h => h) (by rfl) (fun _ => rfl) ?_ ?_; rotate_left; · (intro w; go_simp; (try with_reducible rfl)))
              (try simp only [Act.put, List.setIfInBounds_toArray, List.set_cons_zero, List.set_cons_succ])
              refine wpAnyIn_done (by kernel_rfl) ?_ _
              gi_wp2
              go_roundw
              case rel => exact ⟨j + 1, by omega, by go_num, hk5.blk (hgk.chg_ yu (by simp)) (by decide) (by decide), hk5.blk (hok.chg_ yu (by simp)) (by decide) (by decide), hk5.gw (hgw2.new yu), hk5.fw (hfw2.new yu), by rw [HPS.out]; exact hJ5, Nat.le_trans hsj (Nat.le_trans yu.size hk5.1.size)⟩
              case measure => simp [intOf]; omega
            · refine hK _ _ ?_
              clear hK K hR hy
              (try simp only [Act.put, List.setIfInBounds_toArray, List.set_cons_zero, List.set_cons_succ])
              (refine takeIn_on 9 (some 28) (v := ?_) rfl rfl rfl (by kernel_rfl) (by kernel_rfl) (by kernel_rfl) (fun _ _ _ h => h) (by rfl) (fun _ => rfl) ?_ ?_; rotate_left; · (intro w; go_simp; (try with_reducible rfl)))
              (try simp only [Act.put, List.setIfInBounds_toArray, List.set_cons_zero, List.set_cons_succ])
              (refine takeIn_on 10 (some 29) (v := ?_) rfl rfl rfl (by kernel_rfl) (by kernel_rfl) (by kernel_rfl) (fun _ _ _ h => h) (by rfl) (fun _ => rfl) ?_ ?_; rotate_left; · (intro w; go_simp; (try with_reducible rfl)))
              (try simp only [Act.put, List.setIfInBounds_toArray, List.set_cons_zero, List.set_cons_succ])
              refine wpAnyIn_done (by kernel_rfl) ?_ _
              gi_wp2
              refine bodyPost_ret (results_none rfl _ _ _) rfl ?_
              exact ⟨⟨_, rfl⟩, .inr (by first | exact ⟨_, trivial, hJx5⟩ | exact ⟨_, hJx5⟩)⟩
      · have hltz : ¬ (j : Int) < (H : Int) := by omega
        obtain rfl : j = H := by omega
        gi_wp2
        go_end0
        exact ⟨⟨_, rfl⟩, .inl (by first | exact ⟨_, HTT.out.symm, hJj⟩ | (rw [HTT.out]; exact hJj))⟩


set_option maxRecDepth 100000 in
set_option maxHeartbeats 4000000 in
theorem appendSeq_any (d cb ob : Nat) (hd : 2 ≤ d) (c : Cf) (A : Option Addr) (n k : Nat) (ov : Int) (w : World) (hs : SlK .i64 w A n c.map) (hw : c.Wf) (hcb : Blk w cb 24 (c.cs A n k)) (hob : Blk w ob 46 #[.int .i64 ov]) :
    CallsIn Fence.wide d Try.prog 29 #[.slice none 0 0, .func (.func 30) #[] #[.pointer (some ⟨cb, 0, none⟩), .pointer (some ⟨ob, 0, none⟩)]] w fun e W' =>
      ∃ v, e = .returned v ∧ W'.ownsRow w.heap.size 3 1 v (selL c ov).length ((selL c ov).map (Value.int .i64)) ∧ (v = .slice none 0 0 ↔ selL c ov = []) ∧ Below w.heap.size w W' := by
  have h1 : 1 ≤ d := by omega
  obtain ⟨i0, hi, hz0, hz1, hz2⟩ := info_parts int_info
  have hSq : ∀ w1, Chg [] w w1 → SeqStopsK Fence.wide (d - 1) Try.prog 30 #[.pointer (some ⟨cb, 0, none⟩), .pointer (some ⟨ob, 0, none⟩)] (fun x : Int => #[Value.int .i64 x]) KpC (fun ys => ys = selL c ov) (fun _ => True) 256 w1 :=
    fun w1 hc1 l J Jx W hW hJ _ hY h0 =>
      have hc := hc1.trans (Chg.of_below hW) (by simp)
      frames1_in (d - 1) l cb ob c A n k ov J Jx W hJ hY (hs.chg hc) hw (hcb.chg_ hc (by simp)) (hob.chg_ hc (by simp)) h0
  have hln := selL_len c ov
  clear hs hw hcb hob
  generalize selL c ov = T at *
  refine callsIn_of_wp_marks Try.func29 rfl trivial ?_ rfl
  simp only [Try.ntmps29, List.size_toArray, List.length_cons, List.length_nil, Nat.reduceAdd, Nat.reduceSub, Array.replicate_succ, Array.replicate_zero, List.push_toArray, List.append_toArray, List.nil_append, List.cons_append]
  gi_wp2
  have bO := Boxed.new w 22 (.slice none 0 0)
  have hB0 : Below w.heap.size w (w.alloc (.cells #[.slice none 0 0] 22)) := (Below.refl _ w).alloc (Nat.le_refl _) _
  refine wpIn_rangeFunc_ownG rfl h1 (gf := 30) (lb := #[.pointer (some ⟨cb, 0, none⟩), .pointer (some ⟨ob, 0, none⟩)]) rfl trivial (enters_of Try.func30 (by kernel_rfl) rfl)
    (hSq _ ((Chg.refl [] w).alloc _)) KpC.t (fun W l o o' _ h hc hw => KpC.b W l o o' h hc hw) (Below.refl _ _) (fun _ => rfl)
    (fun pre W => (∃ v, Boxed W w.heap.size 22 v ∧ W.ownsRow w.heap.size 3 1 v pre.length (pre.map (Value.int .i64)) ∧ (v = .slice none 0 0 ↔ pre = [])) ∧ Below w.heap.size w W)
    (fun _ _ _ => False)
    (OwnFrom.and (Own.from (holdsRow_own w.heap.size w.heap.size 22 3 1 (fun pre => pre.length) (fun pre => pre.map (Value.int .i64)) (fun pre v => v = .slice none 0 0 ↔ pre = [])) _) (ownFrom_below (Nat.le_refl _) (by simp)))
    (fun _ _ _ _ _ hs _ _ => hs)
    ⟨⟨_, bO, World.ownsRow_nil _ _ _ _, by simp⟩, hB0⟩
    (fun x => { tmps := #[.slice none 0 0, .func (.func 30) #[] #[.pointer (some ⟨cb, 0, none⟩), .pointer (some ⟨ob, 0, none⟩)], .pointer (some ⟨w.heap.size, 0, none⟩), undef, .slice none 0 0, .int .i64 x, .func (.func 30) #[] #[.pointer (some ⟨cb, 0, none⟩), .pointer (some ⟨ob, 0, none⟩)], .int .i64 x, undef, undef, undef, undef, undef], defers := [] }) ?assign ?body ?done ?stop
  case assign =>
    intro l x W K hK
    gi_wp2
    exact hK
  case body =>
    clear hSq
    rintro l pre x W ⟨⟨v, hv, hrow, hnil⟩, hB⟩ hlt
    have hc := hv.cell
    gi_wp2_with (gi_at_builtin; refine wpListIn_append_own _ rfl _ _ 22 rfl w.heap.size 3 i0 (.int .i64 0) 1 8 Try.underlying22 hi hz0 hz1 hz2 rfl (by decide) _ _ _ rfl (hrow.alloc _) ⟨W.heap.size, 0, none⟩ 1 1 [.int .i64 x] rfl rfl (cell_one_new _ _ _) (by simp [Value.oneCell']) (by simp [maxLen]; omega) (by omega) (by have := hB.size; simp; omega) ?_; intro v' w1 hown' hgrow _; obtain ⟨g', cap', rfl⟩ := ownsRow_succ hown'; obtain ⟨hv1, hv2, hr2, hk2, hb2⟩ := hv.appended (by decide) hrow hB.size (Nat.le_refl _) hown' hgrow; have hc1 := hv1.cell; have hf1 := hv1.frozen)
    have hkp : KpC W (w1.setCell ⟨w.heap.size, 0, none⟩ (.slice (some ⟨g', 0, none⟩) (pre.length + 1) cap')) := by
      refine ⟨⟨hk2.size, fun j ob hj ho => hk2.same j ob hj (by cases ob <;> simp_all [Obj.isWalk, Obj.isCells])⟩, fun j cs t f h1 h2 hj => ?_⟩
      have hjl := (Array.getElem?_eq_some_iff.1 hj).1
      have hne : j ≠ w.heap.size := fun e => by
        subst e
        have := (show W.heap[w.heap.size]? = _ from hv).symm.trans hj
        simp at this
        rw [this.2.1] at h2; simp at h2
      have hna : j ≠ W.heap.size := Nat.ne_of_lt hjl
      have hno : some j ≠ v.ownBlock := fun e => by
        rcases hrow.2 with ⟨rfl, _⟩ | ⟨g, cap, cur, rfl, _, hgb, _⟩
        · simp [Value.ownBlock] at e
        · obtain rfl : j = g := by simpa [Value.ownBlock] using e
          have := hgb.symm.trans hj
          simp at this
          rw [this.2.1] at h1; simp at h1
      exact ((grownBy_setCell' w1 w.heap.size _).block j (Nat.lt_of_lt_of_le hjl (Nat.le_trans (by simp) hgrow.size)) (by simpa using hne)).trans ((hgrow.block j (by simp; omega) hno).trans ((Below.heap_alloc W _ j hjl).trans hj))
    exact ⟨hk2.from _, hkp, ⟨_, hv2, by simpa using hr2, by simp⟩, hB.trans hb2⟩
  case done =>
    rintro D ys W hD rfl ⟨⟨v, hv, hrow, hnil⟩, hB⟩ hK
    have hc := hv.cell
    gi_wp2
    refine ⟨by simp, .inl ⟨_, _, rfl, run_takeDeferred hK, ?_⟩⟩
    exact ⟨_, results_tmp rfl _ _ _, v, rfl, ownsRow_putObj hrow _ hK rfl, hnil, hB.trans (belowK_b (w := w) (Nat.le_refl _) W D _ _ (by simp at hD; omega) hK rfl rfl)⟩
  case stop =>
    rintro D c pre W _ _ h _
    exact h.elim

set_option maxHeartbeats 1000000 in
theorem collect_any (cb ob : Nat) (c : Cf) (A : Option Addr) (n k : Nat) (ov : Int) (w : World) (hs : SlK .i64 w A n c.map) (hw : c.Wf) (hcb : Blk w cb 24 (c.cs A n k)) (hob : Blk w ob 46 #[.int .i64 ov]) :
    Calls Try.prog 21 #[.func (.func 30) #[] #[.pointer (some ⟨cb, 0, none⟩), .pointer (some ⟨ob, 0, none⟩)]] w fun e W' =>
      ∃ v, e = .returned v ∧ OwnI W' 3 .i64 v (selL c ov) ∧ (∀ g ∈ v.ownBlock.toList, w.heap.size ≤ g) ∧ Chg [] w W' := by
  have hA := callsIn_wide.1 (appendSeq_any 9 cb ob (by omega) c A n k ov w hs hw hcb hob)
  clear hs hw hcb hob
  go_enter Try.func21, Try.ntmps21
  go_wp2_with fail
  refine hA.mono ?_; rintro e w1 ⟨v, rfl, hrow, _, hb⟩
  go_wp2_with fail
  go_ret
  exact ⟨v, rfl, own_any hrow rfl, fun g hg => (hrow.lt g (by simpa using hg)).1, Chg.of_below hb⟩

set_option maxHeartbeats 400000 in
theorem frames_any (c : Cf) (A : Option Addr) (n k : Nat) (ov : Int) (w : World) :
    Calls Try.prog 22 #[.agg (c.cs A n k), .int .i64 ov] w fun e w' => ∃ cb ob, e = .returned (.func (.func 30) #[] #[.pointer (some ⟨cb, 0, none⟩), .pointer (some ⟨ob, 0, none⟩)]) ∧ Chg [] w w' ∧ Blk w' cb 24 (c.cs A n k) ∧ Blk w' ob 46 #[.int .i64 ov] := by
  have hmf : ∀ (fn : Fn) (first cap : Array Value) (w : World), (Instr.makeFunc fn first cap).run Try.prog w = .ok (.func fn first cap) w := fun _ _ _ _ => rfl
  unfold Cf.cs
  go_enter Try.func22, Try.ntmps22
  go_wp2
  go_ret
  refine ⟨_, _, rfl, ((Chg.refl [] w).alloc _).alloc _, (Blk.new w _ _).alloc _, ?_⟩
  have := Blk.new (w.alloc (.cells #[.int .i64 c.host, .slice A n k, .int .i64 c.first, .int .i64 c.many, .int .i64 c.tlb, .int .i64 c.asids, .int .i64 c.root] 24)) 46 #[.int .i64 ov]
  simpa using this

/-- a machine that came in -/
structure CfIn (c : Cf) (A : Option Addr) (n : Nat) (w : World) : Prop where
  sl : SlK .i64 w A n c.map
  wf : c.Wf
theorem CfIn.new {c : Cf} {A : Option Addr} {n : Nat} {w w' : World} (h : CfIn c A n w) (hc : Chg [] w w') : CfIn c A n w' := ⟨h.sl.chg hc, h.wf⟩
set_option maxHeartbeats 1000000 in
theorem CRight_at (c : Cf) (A : Option Addr) (n k : Nat) (w : World) (hs : CfIn c A n w) : Calls Try.prog 10 #[.agg (c.cs A n k)] w fun e w' => e = .returned (.bool c.right) ∧ Chg [] w w' := by
  have hM := fun w' (hc : Chg [] w w') => made_at c A n k w' (hs.new hc).sl hs.wf
  have hno : ¬ c.Ok → c.right = false := Cf.right_no
  have hyes : c.Ok → c.right = true := (Cf.right_iff c).2
  generalize c.right = R at *
  unfold MadeP at hM
  unfold Cf.cs at *
  generalize c.Ok = OK at *
  have HNO := Lib.hid hno; have HYES := Lib.hid hyes
  clear hno hyes hs
  go_enter Try.func10, Try.ntmps10
  go_wp2_with fail
  refine (hM _ ((Chg.refl [] w).alloc _)).mono ?_; rintro e w2 ⟨y2, (⟨rfl, hn⟩ | ⟨p, q, rfl, _, _, hok⟩)⟩
  · clear hM
    have HN := Lib.hid hn; clear hn
    go_wp2_with fail
    go_ret
    exact ⟨by rw [HNO.out HN.out]; rfl, (((Chg.refl [] w).alloc _).trans y2 (by simp)).alloc _⟩
  · clear hM
    have HN := Lib.hid hok; clear hok
    go_wp2_with fail
    go_ret
    exact ⟨by rw [HYES.out HN.out]; rfl, (((Chg.refl [] w).alloc _).trans y2 (by simp)).alloc _⟩
theorem CRight_is (c : Cf) (A : Option Addr) (n k : Nat) (t : Bool) (w : World) (hs : CfIn c A n w) (ht : c.right = t) : Calls Try.prog 10 #[.agg (c.cs A n k)] w fun e w' => e = .returned (.bool t) ∧ Chg [] w w' := ht ▸ CRight_at c A n k w hs

/-- what is told of frames: a list of one's own, new since w -/
def FrmP (L : List Int) (w : World) (e : Ending) (w' : World) : Prop := ∃ B m, e = .returned (.slice B L.length m) ∧ OwnI w' 3 .i64 (.slice B L.length m) L ∧ (∀ g ∈ (Value.slice B L.length m).ownBlock.toList, w.heap.size ≤ g) ∧ Chg [] w w'
theorem CImage_at (c : Cf) (A : Option Addr) (n k : Nat) (w : World) (hs : CfIn c A n w) : Calls Try.prog 13 #[.agg (c.cs A n k)] w (FrmP c.image w) := by
  have hF := fun w' => frames_any c A n k 1 w'
  have hC := fun cb ob w' (hc : Chg [] w w') => collect_any cb ob c A n k 1 w' (hs.new hc).sl hs.wf
  rw [selL_img] at hC
  clear hs
  generalize c.image = L at *
  unfold Cf.cs at *
  go_enter Try.func13, Try.ntmps13
  go_wp2_with fail
  refine (hF _).mono ?_; rintro e w1 ⟨cb, ob, rfl, y1, h1, h2⟩
  have c1 := ((Chg.refl [] w).alloc _).trans y1 (by simp)
  go_wp2_with fail
  refine (hC _ _ _ c1 h1 h2).mono ?_; rintro e w2 ⟨v, rfl, ho, hg, y2⟩
  obtain ⟨B, m, rfl⟩ := ho.form
  go_wp2_with fail
  go_ret
  exact ⟨B, m, rfl, ho, fun g hg' => Nat.le_trans c1.size (hg g hg'), c1.trans y2 (by simp)⟩
theorem CForeign_at (c : Cf) (A : Option Addr) (n k : Nat) (w : World) (hs : CfIn c A n w) : Calls Try.prog 15 #[.agg (c.cs A n k)] w (FrmP c.foreign w) := by
  have hF := fun w' => frames_any c A n k 0 w'
  have hC := fun cb ob w' (hc : Chg [] w w') => collect_any cb ob c A n k 0 w' (hs.new hc).sl hs.wf
  rw [selL_frn] at hC
  clear hs
  generalize c.foreign = L at *
  unfold Cf.cs at *
  go_enter Try.func15, Try.ntmps15
  go_wp2_with fail
  refine (hF _).mono ?_; rintro e w1 ⟨cb, ob, rfl, y1, h1, h2⟩
  have c1 := ((Chg.refl [] w).alloc _).trans y1 (by simp)
  go_wp2_with fail
  refine (hC _ _ _ c1 h1 h2).mono ?_; rintro e w2 ⟨v, rfl, ho, hg, y2⟩
  obtain ⟨B, m, rfl⟩ := ho.form
  go_wp2_with fail
  go_ret
  exact ⟨B, m, rfl, ho, fun g hg' => Nat.le_trans c1.size (hg g hg'), c1.trans y2 (by simp)⟩

end Go.Proofs.Ytkggkdjhecagnaa
