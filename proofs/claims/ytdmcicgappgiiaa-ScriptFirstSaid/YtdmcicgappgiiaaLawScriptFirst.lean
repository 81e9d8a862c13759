/-
  The law ScriptFirst.
-/
import Derived.Test.YtdmcicgappgiiaaScriptHead
namespace Go.Proofs.Ytdmcicgappgiiaa
open Go.RowKit Go.Shelf

set_option maxRecDepth 100000 in
set_option maxHeartbeats 8000000 in
theorem ScriptFirst_walk (CL : Option Addr) (nl cl : Nat) (l : List Sop) (A : Option Addr) (na ca : Nat) (la : List Int) (B : Option Addr) (nb cb : Nat) (lb : List Int) (what : Int) (w : World) (hL : SlG opE w CL nl l) (hwl : ∀ o ∈ l, o.Wf) (hA : SlG (numE .u8) w A na la) (hra : ∀ x ∈ la, 0 ≤ x ∧ x < 256) (hA0 : A = none → na = 0 ∧ ca = 0) (hB : SlG (numE .u8) w B nb lb) (hrb : ∀ x ∈ lb, 0 ≤ x ∧ x < 256) (hB0 : B = none → nb = 0 ∧ cb = 0) (hwh : 0 ≤ what ∧ what ≤ 255) :
    Calls Try.prog 9 #[.slice CL nl cl, .slice A na ca, .slice B nb cb, .int .u8 what] w fun e w' => e = .returned (.bool true) ∧ Chg [] w w' := by
  have hll := Lib.hid hL.len
  have hal := Lib.hid hA.len
  have hbl := Lib.hid hB.len
  have hle := hL.le
  have hle1 := hA.le
  have hle2 := hB.le
  go_enter Try.func9, Try.ntmps9
  go_wp2_with fail
  refine (Schead_any _).mono ?_; rintro e w1 ⟨rfl, k1⟩
  by_cases big_nl : 200 < nl
  · go_wp2_with fail
    go_ret
    exact ⟨rfl, k1⟩
  by_cases big_na : 900 < na
  · go_wp2_with fail
    go_ret
    exact ⟨rfl, k1⟩
  by_cases big_nb : 900 < nb
  · go_wp2_with fail
    go_ret
    exact ⟨rfl, k1⟩
  have hp0 := putS_le l
  rw [hL.len] at hp0
  have hr0 := put_all (l := l)
  rw [hL.len] at hr0
  have hpis := fun h => put_is (l := l) h
  generalize hpe : putS l = p at *
  generalize hnp : p.length = np at *
  have hP := ScPut_is (c := cl) hpe hnp (hL.new k1) hwl (by omega)
  replace hnp := Lib.hid hnp
  replace hpe := Lib.hid hpe
  go_wp2_with fail
  refine hP.mono ?_; rintro e w2 ⟨A2, c2, rfl, lg2⟩
  clear hP
  have k2 := k1.trans lg2.1 (by simp)
  by_cases q_np : np = 0
  · by_cases q_nl : 0 < nl
    · have z_np : ((np : Int) == 0) = true := by simp; omega
      have y_nl : decide (0 < nl) = true := by simpa using q_nl
      clear q_nl q_np
      go_wp2_with fail
      go_ret
      exact ⟨rfl, k2⟩
    · have z_np : ((np : Int) == 0) = true := by simp; omega
      have y_nl : decide (0 < nl) = false := by simpa using q_nl
      have r_np : ¬ (np = 0 ∧ 0 < nl) := by omega
      clear q_nl q_np
      replace hr0 := hr0 r_np
      clear r_np
      have hpf := hpis hr0
      clear hpis
      obtain ⟨kk, hkk⟩ : ∃ kk, kk = 9 + what % 100 := ⟨_, rfl⟩
      have hk9 : 9 ≤ kk ∧ kk < 128 := by omega
      have hwk : 9 + what % 100 = kk := hkk.symm
      clear hkk
      have hgg : ∀ t : List Int, getS (p ++ [kk] ++ t) = (l, np) := fun t => by rw [List.append_assoc, hpf]; have := getS_first l t hwl hr0 hk9.1 hk9.2; rw [← hpf, hnp.out, hpf] at this; exact this
      have hrg : ∀ t : List Int, (∀ x ∈ t, 0 ≤ x ∧ x < 256) → ∀ x ∈ p ++ [kk] ++ t, 0 ≤ x ∧ x < 256 := fun t ht x hx => by
        rw [List.mem_append, List.mem_append] at hx
        rcases hx with (hx | hx) | hx
        · rw [hpf] at hx; exact flat_rng hr0 x hx
        · simp at hx; omega
        · exact ht x hx
      replace hpf := Lib.hid hpf
      have lge : LG (numE .u8) w2 (w2.alloc (.cells #[] 5)) 5 (.slice (some ⟨w2.heap.size, 0, none⟩) 0 0) [] := ⟨(Chg.refl [] w2).alloc _, OwnG.lit (L := []) (Blk.new w2 5 #[]) (by decide), by simp [Value.ownBlock]⟩
      have lp := lg2.new lge.1
      go_wp2_with (at_builtin; first | (refine wpList_append_G rfl _ _ 23 rfl 5 (.int .u8 0) 1 Try.underlying23 (by kernel_rfl) rfl (.slice (some ⟨w2.heap.size, 0, none⟩) 0 0) ([]) rfl (lge.2.1) (A2) np c2 (p) rfl (lp.2.1.slg.src lp.2.1.nil_) (hnp.out) (by simp; omega) ?_; intro v5 w5 ho5 hc5 hv5; rw [List.nil_append] at ho5; obtain ⟨A5, c5, rfl, _, _⟩ := ho5.form; have lg5 := lge.app ho5 hc5 hv5; replace lg5 := lg5.len_ hnp.out; clear lge ho5 hc5 hv5; rw [hnp.out]; have lg6 := lg5.new ((Chg.refl [] w5).alloc (.cells #[.int .u8 kk] 5))) | (refine wpList_append_G rfl _ _ 23 rfl 5 (.int .u8 0) 1 Try.underlying23 (by kernel_rfl) rfl (.slice A5 np c5) (p) rfl (lg6.2.1) (some ⟨w5.heap.size, 0, none⟩) 1 1 ([kk]) rfl (OwnG.src (OwnG.lit (L := [kk]) (Blk.new w5 5 #[.int .u8 kk]) (by simp))) (rfl) (by rw [hnp.out]; omega) ?_; intro v7 w7 ho7 hc7 hv7; obtain ⟨A7, c7, rfl, _, _⟩ := ho7.form; have lg7 := lg6.app ho7 hc7 hv7; have k7 := k2.trans lg7.1 (by simp); have l7 : (p ++ [kk]).length = np + 1 := (by rw [List.length_append, hnp.out]; rfl); replace lg7 := lg7.len_ l7; rw [l7]; replace l7 := Lib.hid l7; clear lg5 lg6 ho7 hc7 hv7) | (refine wpList_append_G rfl _ _ 23 rfl 5 (.int .u8 0) 1 Try.underlying23 (by kernel_rfl) rfl (.slice A7 (np + 1) c7) (p ++ [kk]) rfl (lg7.2.1) (A) na ca (la) rfl ((hA.new k7).src hA0) (hal.out) (by rw [l7.out]; omega) ?_; intro v9 w9 ho9 hc9 hv9; obtain ⟨A9, c9, rfl, _, _⟩ := ho9.form; have lg9 := lg7.app ho9 hc9 hv9; have l9 : (p ++ [kk] ++ la).length = np + 1 + na := (by rw [List.length_append, l7.out, hal.out]); replace lg9 := lg9.len_ l9; rw [l9]; replace l9 := Lib.hid l9; clear lg7 ho9 hc9 hv9 lp k7))
      have hG := ScGet_is (c := c9) (n := nl) (ki := (np : Int)) (er := 12) (hgg la) hll.out rfl (by rw [if_neg]; rw [l9.out]; omega) lg9.2.1.slg lg9.2.1.cap.1 (by omega) (hrg la hra)
      refine hG.mono ?_; rintro e w10 ⟨A10, c10, rfl, lg10⟩
      clear hG
      have k10 := k2.trans (lg9.1.trans lg10.1 (by simp)) (by simp)
      replace lg2 := lg2.new (lg9.1.trans lg10.1 (by simp))
      clear lg9 l9 l7
      have lge : LG (numE .u8) w10 (w10.alloc (.cells #[] 5)) 5 (.slice (some ⟨w10.heap.size, 0, none⟩) 0 0) [] := ⟨(Chg.refl [] w10).alloc _, OwnG.lit (L := []) (Blk.new w10 5 #[]) (by decide), by simp [Value.ownBlock]⟩
      have lp := lg2.new lge.1
      go_wp2_with (at_builtin; first | (refine wpList_append_G rfl _ _ 23 rfl 5 (.int .u8 0) 1 Try.underlying23 (by kernel_rfl) rfl (.slice (some ⟨w10.heap.size, 0, none⟩) 0 0) ([]) rfl (lge.2.1) (A2) np c2 (p) rfl (lp.2.1.slg.src lp.2.1.nil_) (hnp.out) (by simp; omega) ?_; intro v15 w15 ho15 hc15 hv15; rw [List.nil_append] at ho15; obtain ⟨A15, c15, rfl, _, _⟩ := ho15.form; have lg15 := lge.app ho15 hc15 hv15; replace lg15 := lg15.len_ hnp.out; clear lge ho15 hc15 hv15; rw [hnp.out]; have lg16 := lg15.new ((Chg.refl [] w15).alloc (.cells #[.int .u8 kk] 5))) | (refine wpList_append_G rfl _ _ 23 rfl 5 (.int .u8 0) 1 Try.underlying23 (by kernel_rfl) rfl (.slice A15 np c15) (p) rfl (lg16.2.1) (some ⟨w15.heap.size, 0, none⟩) 1 1 ([kk]) rfl (OwnG.src (OwnG.lit (L := [kk]) (Blk.new w15 5 #[.int .u8 kk]) (by simp))) (rfl) (by rw [hnp.out]; omega) ?_; intro v17 w17 ho17 hc17 hv17; obtain ⟨A17, c17, rfl, _, _⟩ := ho17.form; have lg17 := lg16.app ho17 hc17 hv17; have k17 := k10.trans lg17.1 (by simp); have l17 : (p ++ [kk]).length = np + 1 := (by rw [List.length_append, hnp.out]; rfl); replace lg17 := lg17.len_ l17; rw [l17]; replace l17 := Lib.hid l17; clear lg15 lg16 ho17 hc17 hv17) | (refine wpList_append_G rfl _ _ 23 rfl 5 (.int .u8 0) 1 Try.underlying23 (by kernel_rfl) rfl (.slice A17 (np + 1) c17) (p ++ [kk]) rfl (lg17.2.1) (B) nb cb (lb) rfl ((hB.new k17).src hB0) (hbl.out) (by rw [l17.out]; omega) ?_; intro v19 w19 ho19 hc19 hv19; obtain ⟨A19, c19, rfl, _, _⟩ := ho19.form; have lg19 := lg17.app ho19 hc19 hv19; have l19 : (p ++ [kk] ++ lb).length = np + 1 + nb := (by rw [List.length_append, l17.out, hbl.out]); replace lg19 := lg19.len_ l19; rw [l19]; replace l19 := Lib.hid l19; clear lg17 ho19 hc19 hv19 lp k17))
      have hG := ScGet_is (c := c19) (n := nl) (ki := (np : Int)) (er := 12) (hgg lb) hll.out rfl (by rw [if_neg]; rw [l19.out]; omega) lg19.2.1.slg lg19.2.1.cap.1 (by omega) (hrg lb hrb)
      refine hG.mono ?_; rintro e w20 ⟨A20, c20, rfl, lg20⟩
      clear hG
      have k20 := k10.trans (lg19.1.trans lg20.1 (by simp)) (by simp)
      replace lg2 := lg2.new (lg19.1.trans lg20.1 (by simp))
      replace lg10 := lg10.new (lg19.1.trans lg20.1 (by simp))
      clear lg19 l19 l17
      have hS1 := ScSame_any A10 CL nl nl c10 cl l l w20 lg10.2.1.slg (hL.new k20)
      rw [decide_eq_true (rfl : l = l)] at hS1
      go_wp2_with fail
      refine hS1.mono ?_; rintro e w21 ⟨rfl, k21⟩
      clear hS1
      replace k20 := k20.trans k21 (by simp)
      replace lg20 := lg20.new k21
      have hS1 := ScSame_any A20 CL nl nl c20 cl l l w21 lg20.2.1.slg (hL.new k20)
      rw [decide_eq_true (rfl : l = l)] at hS1
      go_wp2_with fail
      refine hS1.mono ?_; rintro e w22 ⟨rfl, k22⟩
      clear hS1
      replace k20 := k20.trans k22 (by simp)
      go_wp2_with fail
      go_ret
      exact ⟨rfl, k20⟩
  · have z_np : ((np : Int) == 0) = false := by simp; omega
    have r_np : ¬ (np = 0 ∧ 0 < nl) := by omega
    clear q_np
    replace hr0 := hr0 r_np
    clear r_np
    have hpf := hpis hr0
    clear hpis
    obtain ⟨kk, hkk⟩ : ∃ kk, kk = 9 + what % 100 := ⟨_, rfl⟩
    have hk9 : 9 ≤ kk ∧ kk < 128 := by omega
    have hwk : 9 + what % 100 = kk := hkk.symm
    clear hkk
    have hgg : ∀ t : List Int, getS (p ++ [kk] ++ t) = (l, np) := fun t => by rw [List.append_assoc, hpf]; have := getS_first l t hwl hr0 hk9.1 hk9.2; rw [← hpf, hnp.out, hpf] at this; exact this
    have hrg : ∀ t : List Int, (∀ x ∈ t, 0 ≤ x ∧ x < 256) → ∀ x ∈ p ++ [kk] ++ t, 0 ≤ x ∧ x < 256 := fun t ht x hx => by
      rw [List.mem_append, List.mem_append] at hx
      rcases hx with (hx | hx) | hx
      · rw [hpf] at hx; exact flat_rng hr0 x hx
      · simp at hx; omega
      · exact ht x hx
    replace hpf := Lib.hid hpf
    have lge : LG (numE .u8) w2 (w2.alloc (.cells #[] 5)) 5 (.slice (some ⟨w2.heap.size, 0, none⟩) 0 0) [] := ⟨(Chg.refl [] w2).alloc _, OwnG.lit (L := []) (Blk.new w2 5 #[]) (by decide), by simp [Value.ownBlock]⟩
    have lp := lg2.new lge.1
    go_wp2_with (at_builtin; first | (refine wpList_append_G rfl _ _ 23 rfl 5 (.int .u8 0) 1 Try.underlying23 (by kernel_rfl) rfl (.slice (some ⟨w2.heap.size, 0, none⟩) 0 0) ([]) rfl (lge.2.1) (A2) np c2 (p) rfl (lp.2.1.slg.src lp.2.1.nil_) (hnp.out) (by simp; omega) ?_; intro v5 w5 ho5 hc5 hv5; rw [List.nil_append] at ho5; obtain ⟨A5, c5, rfl, _, _⟩ := ho5.form; have lg5 := lge.app ho5 hc5 hv5; replace lg5 := lg5.len_ hnp.out; clear lge ho5 hc5 hv5; rw [hnp.out]; have lg6 := lg5.new ((Chg.refl [] w5).alloc (.cells #[.int .u8 kk] 5))) | (refine wpList_append_G rfl _ _ 23 rfl 5 (.int .u8 0) 1 Try.underlying23 (by kernel_rfl) rfl (.slice A5 np c5) (p) rfl (lg6.2.1) (some ⟨w5.heap.size, 0, none⟩) 1 1 ([kk]) rfl (OwnG.src (OwnG.lit (L := [kk]) (Blk.new w5 5 #[.int .u8 kk]) (by simp))) (rfl) (by rw [hnp.out]; omega) ?_; intro v7 w7 ho7 hc7 hv7; obtain ⟨A7, c7, rfl, _, _⟩ := ho7.form; have lg7 := lg6.app ho7 hc7 hv7; have k7 := k2.trans lg7.1 (by simp); have l7 : (p ++ [kk]).length = np + 1 := (by rw [List.length_append, hnp.out]; rfl); replace lg7 := lg7.len_ l7; rw [l7]; replace l7 := Lib.hid l7; clear lg5 lg6 ho7 hc7 hv7) | (refine wpList_append_G rfl _ _ 23 rfl 5 (.int .u8 0) 1 Try.underlying23 (by kernel_rfl) rfl (.slice A7 (np + 1) c7) (p ++ [kk]) rfl (lg7.2.1) (A) na ca (la) rfl ((hA.new k7).src hA0) (hal.out) (by rw [l7.out]; omega) ?_; intro v9 w9 ho9 hc9 hv9; obtain ⟨A9, c9, rfl, _, _⟩ := ho9.form; have lg9 := lg7.app ho9 hc9 hv9; have l9 : (p ++ [kk] ++ la).length = np + 1 + na := (by rw [List.length_append, l7.out, hal.out]); replace lg9 := lg9.len_ l9; rw [l9]; replace l9 := Lib.hid l9; clear lg7 ho9 hc9 hv9 lp k7))
    have hG := ScGet_is (c := c9) (n := nl) (ki := (np : Int)) (er := 12) (hgg la) hll.out rfl (by rw [if_neg]; rw [l9.out]; omega) lg9.2.1.slg lg9.2.1.cap.1 (by omega) (hrg la hra)
    refine hG.mono ?_; rintro e w10 ⟨A10, c10, rfl, lg10⟩
    clear hG
    have k10 := k2.trans (lg9.1.trans lg10.1 (by simp)) (by simp)
    replace lg2 := lg2.new (lg9.1.trans lg10.1 (by simp))
    clear lg9 l9 l7
    have lge : LG (numE .u8) w10 (w10.alloc (.cells #[] 5)) 5 (.slice (some ⟨w10.heap.size, 0, none⟩) 0 0) [] := ⟨(Chg.refl [] w10).alloc _, OwnG.lit (L := []) (Blk.new w10 5 #[]) (by decide), by simp [Value.ownBlock]⟩
    have lp := lg2.new lge.1
    go_wp2_with (at_builtin; first | (refine wpList_append_G rfl _ _ 23 rfl 5 (.int .u8 0) 1 Try.underlying23 (by kernel_rfl) rfl (.slice (some ⟨w10.heap.size, 0, none⟩) 0 0) ([]) rfl (lge.2.1) (A2) np c2 (p) rfl (lp.2.1.slg.src lp.2.1.nil_) (hnp.out) (by simp; omega) ?_; intro v15 w15 ho15 hc15 hv15; rw [List.nil_append] at ho15; obtain ⟨A15, c15, rfl, _, _⟩ := ho15.form; have lg15 := lge.app ho15 hc15 hv15; replace lg15 := lg15.len_ hnp.out; clear lge ho15 hc15 hv15; rw [hnp.out]; have lg16 := lg15.new ((Chg.refl [] w15).alloc (.cells #[.int .u8 kk] 5))) | (refine wpList_append_G rfl _ _ 23 rfl 5 (.int .u8 0) 1 Try.underlying23 (by kernel_rfl) rfl (.slice A15 np c15) (p) rfl (lg16.2.1) (some ⟨w15.heap.size, 0, none⟩) 1 1 ([kk]) rfl (OwnG.src (OwnG.lit (L := [kk]) (Blk.new w15 5 #[.int .u8 kk]) (by simp))) (rfl) (by rw [hnp.out]; omega) ?_; intro v17 w17 ho17 hc17 hv17; obtain ⟨A17, c17, rfl, _, _⟩ := ho17.form; have lg17 := lg16.app ho17 hc17 hv17; have k17 := k10.trans lg17.1 (by simp); have l17 : (p ++ [kk]).length = np + 1 := (by rw [List.length_append, hnp.out]; rfl); replace lg17 := lg17.len_ l17; rw [l17]; replace l17 := Lib.hid l17; clear lg15 lg16 ho17 hc17 hv17) | (refine wpList_append_G rfl _ _ 23 rfl 5 (.int .u8 0) 1 Try.underlying23 (by kernel_rfl) rfl (.slice A17 (np + 1) c17) (p ++ [kk]) rfl (lg17.2.1) (B) nb cb (lb) rfl ((hB.new k17).src hB0) (hbl.out) (by rw [l17.out]; omega) ?_; intro v19 w19 ho19 hc19 hv19; obtain ⟨A19, c19, rfl, _, _⟩ := ho19.form; have lg19 := lg17.app ho19 hc19 hv19; have l19 : (p ++ [kk] ++ lb).length = np + 1 + nb := (by rw [List.length_append, l17.out, hbl.out]); replace lg19 := lg19.len_ l19; rw [l19]; replace l19 := Lib.hid l19; clear lg17 ho19 hc19 hv19 lp k17))
    have hG := ScGet_is (c := c19) (n := nl) (ki := (np : Int)) (er := 12) (hgg lb) hll.out rfl (by rw [if_neg]; rw [l19.out]; omega) lg19.2.1.slg lg19.2.1.cap.1 (by omega) (hrg lb hrb)
    refine hG.mono ?_; rintro e w20 ⟨A20, c20, rfl, lg20⟩
    clear hG
    have k20 := k10.trans (lg19.1.trans lg20.1 (by simp)) (by simp)
    replace lg2 := lg2.new (lg19.1.trans lg20.1 (by simp))
    replace lg10 := lg10.new (lg19.1.trans lg20.1 (by simp))
    clear lg19 l19 l17
    have hS1 := ScSame_any A10 CL nl nl c10 cl l l w20 lg10.2.1.slg (hL.new k20)
    rw [decide_eq_true (rfl : l = l)] at hS1
    go_wp2_with fail
    refine hS1.mono ?_; rintro e w21 ⟨rfl, k21⟩
    clear hS1
    replace k20 := k20.trans k21 (by simp)
    replace lg20 := lg20.new k21
    have hS1 := ScSame_any A20 CL nl nl c20 cl l l w21 lg20.2.1.slg (hL.new k20)
    rw [decide_eq_true (rfl : l = l)] at hS1
    go_wp2_with fail
    refine hS1.mono ?_; rintro e w22 ⟨rfl, k22⟩
    clear hS1
    replace k20 := k20.trans k22 (by simp)
    go_wp2_with fail
    go_ret
    exact ⟨rfl, k20⟩

end Go.Proofs.Ytdmcicgappgiiaa
