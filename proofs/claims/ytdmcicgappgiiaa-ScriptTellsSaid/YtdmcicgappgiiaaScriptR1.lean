/-
  The document's small functions on operations' bytes.
-/
import Derived.Test.YtdmcicgappgiiaaScriptF
namespace Go.Proofs.Ytdmcicgappgiiaa
open Go.RowKit Go.Shelf

/-- has a kind a part, by the document's letters -/
def hasC (w c : Int) : Bool := if c = 117 then hasPU w else if c = 65 then hasPA w else if c = 86 then hasPV w else if c = 71 then hasPG w else if c = 73 then hasPI w else hasPN w
def isD (c : Int) : Prop := c = 117 ∨ c = 65 ∨ c = 86 ∨ c = 71 ∨ c = 73 ∨ c = 78
def partsD (w : Int) : List Int := if w = 0 ∨ w = 2 then [117, 65] else if w = 1 then [117, 65, 86] else if w = 3 ∨ w = 7 then [65] else if w = 4 then [71] else if w = 5 then [71, 73, 86] else if w = 6 ∨ w = 8 then [78] else []
theorem hasC_is {w c : Int} (hc : isD c) : hasC w c = decide (c ∈ partsD w) := by
  by_cases hw : 0 ≤ w ∧ w ≤ 8
  · rcases what_cases hw.1 hw.2 with rfl | rfl | rfl | rfl | rfl | rfl | rfl | rfl | rfl <;> rcases hc with rfl | rfl | rfl | rfl | rfl | rfl <;> decide
  · have e : partsD w = [] := by
      unfold partsD
      rw [if_neg (by omega), if_neg (by omega), if_neg (by omega), if_neg (by omega), if_neg (by omega), if_neg (by omega)]
    rw [e]
    unfold hasC hasPU hasPA hasPV hasPG hasPI hasPN
    have h0 : (w == 0) = false := by simp; omega
    have h1 : (w == 1) = false := by simp; omega
    have h2 : (w == 2) = false := by simp; omega
    have h3 : (w == 3) = false := by simp; omega
    have h4 : (w == 4) = false := by simp; omega
    have h5 : (w == 5) = false := by simp; omega
    have h6 : (w == 6) = false := by simp; omega
    have h7 : (w == 7) = false := by simp; omega
    have h8 : (w == 8) = false := by simp; omega
    rw [h0, h1, h2, h3, h4, h5, h6, h7, h8]
    simp

theorem isD_rng {c : Int} (h : isD c) : 0 ≤ c ∧ c < 256 := by unfold isD at h; omega
theorem partsD_rng (w : Int) : ∀ d ∈ partsD w, 0 ≤ d ∧ d < 256 := by
  intro d hd
  unfold partsD at hd
  repeat' split at hd
  all_goals simp at hd
  all_goals omega
theorem str_at {L : List Int} {k : Nat} {d : Int} (h : L[k]? = some d) (hk : k < (strOfNums L).size) (hd : 0 ≤ d ∧ d < 256) : (((strOfNums L)[k]'hk).toNat : Int) = d := by
  have h1 : (strOfNums L).data.toList[k]? = some (UInt8.ofNat d.toNat) := by rw [strOfNums_data, List.getElem?_map, h]; rfl
  have h2 : (strOfNums L).data[k]? = some (UInt8.ofNat d.toNat) := by rw [← Array.getElem?_toList]; exact h1
  have h3 : (strOfNums L)[k]'hk = UInt8.ofNat d.toNat := (Array.getElem?_eq_some_iff.1 h2).2
  rw [h3]; simp only [UInt8.toNat_ofNat']; omega
set_option maxRecDepth 100000 in
set_option maxHeartbeats 4000000 in
theorem RHas_any {c : Int} (hc : isD c) (x : Int) (w : World) : Calls Try.prog 20 #[.int .i64 x, .int .u8 c] w fun e w' => e = .returned (.bool (hasC x c)) ∧ w = w' := by
  rw [hasC_is hc]
  by_cases hx : 0 ≤ x ∧ x ≤ 8
  · rcases what_cases hx.1 hx.2 with rfl | rfl | rfl | rfl | rfl | rfl | rfl | rfl | rfl
    · clear hx
      have hc8 : 0 ≤ c ∧ c < 256 := isD_rng hc
      clear hc
      go_enter Try.func20, Try.ntmps20
      go_wp2_with fail
      rw [show (⟨#[117, 65]⟩ : ByteArray) = strOfNums (partsD 0) from by decide]
      have hsz : (strOfNums (partsD 0)).size = 2 := by decide
      go_loopg [6] 4 (fun gg s6 wr => ∃ (k : Nat), k ≤ 2 ∧ 2 - k ≤ gg ∧ s6 = .int .i64 (k : Nat) ∧ Aside (∀ j, j < k → (partsD 0)[j]? ≠ some c) ∧ Aside (w = wr))
      case atStart => exact ⟨0, by omega, by omega, rfl, (by intro j hj; omega), rfl⟩
      case round =>
        obtain ⟨k, hk, hg, rfl, hno, hw⟩ := hrel
        obtain rfl := hw.out
        by_cases hlt : k < 2
        · obtain ⟨d, hd⟩ : ∃ d, (partsD 0)[k]? = some d := ⟨_, List.getElem?_eq_getElem (show k < (partsD 0).length from hlt)⟩
          have hix := str_at hd (by rw [hsz]; exact hlt) (partsD_rng _ d (List.mem_of_getElem? hd))
          by_cases hdc : d = c
          · subst hdc
            have hyes : Hid (decide (d ∈ partsD 0) = true) := Lib.hid (decide_eq_true (List.mem_of_getElem? hd))
            clear hd hno
            go_wp2_with fail
            go_ret
            rw [hyes.out]
            exact ⟨rfl, rfl⟩
          · have hcd : (d == c) = false := by simpa using hdc
            have hno2 : ∀ j, j < k + 1 → (partsD 0)[j]? ≠ some c := by
              intro j hj e
              rcases Nat.lt_or_ge j k with h | h
              · exact hno.out j h e
              · obtain rfl : j = k := by omega
                rw [hd] at e; injection e with e; exact hdc e
            clear hd hno hdc
            replace hno2 := Lib.hid hno2
            go_wp2_with fail
            go_roundg (2 - (k + 1))
            case measure => omega
            case rel => exact ⟨k + 1, by omega, by omega, by go_num, hno2.out, rfl⟩
        · have hnot : Hid (decide (c ∈ partsD 0) = false) := Lib.hid (decide_eq_false fun hm => by obtain ⟨j, hj, e⟩ := List.getElem_of_mem hm; have hjn : j < 2 := hj; exact hno.out j (by omega) (by rw [List.getElem?_eq_getElem hj, e]))
          clear hno
          go_wp2_with fail
          go_ret
          rw [hnot.out]
          exact ⟨rfl, rfl⟩
    · clear hx
      have hc8 : 0 ≤ c ∧ c < 256 := isD_rng hc
      clear hc
      go_enter Try.func20, Try.ntmps20
      go_wp2_with fail
      rw [show (⟨#[117, 65, 86]⟩ : ByteArray) = strOfNums (partsD 1) from by decide]
      have hsz : (strOfNums (partsD 1)).size = 3 := by decide
      go_loopg [6] 4 (fun gg s6 wr => ∃ (k : Nat), k ≤ 3 ∧ 3 - k ≤ gg ∧ s6 = .int .i64 (k : Nat) ∧ Aside (∀ j, j < k → (partsD 1)[j]? ≠ some c) ∧ Aside (w = wr))
      case atStart => exact ⟨0, by omega, by omega, rfl, (by intro j hj; omega), rfl⟩
      case round =>
        obtain ⟨k, hk, hg, rfl, hno, hw⟩ := hrel
        obtain rfl := hw.out
        by_cases hlt : k < 3
        · obtain ⟨d, hd⟩ : ∃ d, (partsD 1)[k]? = some d := ⟨_, List.getElem?_eq_getElem (show k < (partsD 1).length from hlt)⟩
          have hix := str_at hd (by rw [hsz]; exact hlt) (partsD_rng _ d (List.mem_of_getElem? hd))
          by_cases hdc : d = c
          · subst hdc
            have hyes : Hid (decide (d ∈ partsD 1) = true) := Lib.hid (decide_eq_true (List.mem_of_getElem? hd))
            clear hd hno
            go_wp2_with fail
            go_ret
            rw [hyes.out]
            exact ⟨rfl, rfl⟩
          · have hcd : (d == c) = false := by simpa using hdc
            have hno2 : ∀ j, j < k + 1 → (partsD 1)[j]? ≠ some c := by
              intro j hj e
              rcases Nat.lt_or_ge j k with h | h
              · exact hno.out j h e
              · obtain rfl : j = k := by omega
                rw [hd] at e; injection e with e; exact hdc e
            clear hd hno hdc
            replace hno2 := Lib.hid hno2
            go_wp2_with fail
            go_roundg (3 - (k + 1))
            case measure => omega
            case rel => exact ⟨k + 1, by omega, by omega, by go_num, hno2.out, rfl⟩
        · have hnot : Hid (decide (c ∈ partsD 1) = false) := Lib.hid (decide_eq_false fun hm => by obtain ⟨j, hj, e⟩ := List.getElem_of_mem hm; have hjn : j < 3 := hj; exact hno.out j (by omega) (by rw [List.getElem?_eq_getElem hj, e]))
          clear hno
          go_wp2_with fail
          go_ret
          rw [hnot.out]
          exact ⟨rfl, rfl⟩
    · clear hx
      have hc8 : 0 ≤ c ∧ c < 256 := isD_rng hc
      clear hc
      go_enter Try.func20, Try.ntmps20
      go_wp2_with fail
      rw [show (⟨#[117, 65]⟩ : ByteArray) = strOfNums (partsD 2) from by decide]
      have hsz : (strOfNums (partsD 2)).size = 2 := by decide
      go_loopg [6] 4 (fun gg s6 wr => ∃ (k : Nat), k ≤ 2 ∧ 2 - k ≤ gg ∧ s6 = .int .i64 (k : Nat) ∧ Aside (∀ j, j < k → (partsD 2)[j]? ≠ some c) ∧ Aside (w = wr))
      case atStart => exact ⟨0, by omega, by omega, rfl, (by intro j hj; omega), rfl⟩
      case round =>
        obtain ⟨k, hk, hg, rfl, hno, hw⟩ := hrel
        obtain rfl := hw.out
        by_cases hlt : k < 2
        · obtain ⟨d, hd⟩ : ∃ d, (partsD 2)[k]? = some d := ⟨_, List.getElem?_eq_getElem (show k < (partsD 2).length from hlt)⟩
          have hix := str_at hd (by rw [hsz]; exact hlt) (partsD_rng _ d (List.mem_of_getElem? hd))
          by_cases hdc : d = c
          · subst hdc
            have hyes : Hid (decide (d ∈ partsD 2) = true) := Lib.hid (decide_eq_true (List.mem_of_getElem? hd))
            clear hd hno
            go_wp2_with fail
            go_ret
            rw [hyes.out]
            exact ⟨rfl, rfl⟩
          · have hcd : (d == c) = false := by simpa using hdc
            have hno2 : ∀ j, j < k + 1 → (partsD 2)[j]? ≠ some c := by
              intro j hj e
              rcases Nat.lt_or_ge j k with h | h
              · exact hno.out j h e
              · obtain rfl : j = k := by omega
                rw [hd] at e; injection e with e; exact hdc e
            clear hd hno hdc
            replace hno2 := Lib.hid hno2
            go_wp2_with fail
            go_roundg (2 - (k + 1))
            case measure => omega
            case rel => exact ⟨k + 1, by omega, by omega, by go_num, hno2.out, rfl⟩
        · have hnot : Hid (decide (c ∈ partsD 2) = false) := Lib.hid (decide_eq_false fun hm => by obtain ⟨j, hj, e⟩ := List.getElem_of_mem hm; have hjn : j < 2 := hj; exact hno.out j (by omega) (by rw [List.getElem?_eq_getElem hj, e]))
          clear hno
          go_wp2_with fail
          go_ret
          rw [hnot.out]
          exact ⟨rfl, rfl⟩
    · clear hx
      have hc8 : 0 ≤ c ∧ c < 256 := isD_rng hc
      clear hc
      go_enter Try.func20, Try.ntmps20
      go_wp2_with fail
      rw [show (⟨#[65]⟩ : ByteArray) = strOfNums (partsD 3) from by decide]
      have hsz : (strOfNums (partsD 3)).size = 1 := by decide
      go_loopg [6] 4 (fun gg s6 wr => ∃ (k : Nat), k ≤ 1 ∧ 1 - k ≤ gg ∧ s6 = .int .i64 (k : Nat) ∧ Aside (∀ j, j < k → (partsD 3)[j]? ≠ some c) ∧ Aside (w = wr))
      case atStart => exact ⟨0, by omega, by omega, rfl, (by intro j hj; omega), rfl⟩
      case round =>
        obtain ⟨k, hk, hg, rfl, hno, hw⟩ := hrel
        obtain rfl := hw.out
        by_cases hlt : k < 1
        · obtain ⟨d, hd⟩ : ∃ d, (partsD 3)[k]? = some d := ⟨_, List.getElem?_eq_getElem (show k < (partsD 3).length from hlt)⟩
          have hix := str_at hd (by rw [hsz]; exact hlt) (partsD_rng _ d (List.mem_of_getElem? hd))
          by_cases hdc : d = c
          · subst hdc
            have hyes : Hid (decide (d ∈ partsD 3) = true) := Lib.hid (decide_eq_true (List.mem_of_getElem? hd))
            clear hd hno
            go_wp2_with fail
            go_ret
            rw [hyes.out]
            exact ⟨rfl, rfl⟩
          · have hcd : (d == c) = false := by simpa using hdc
            have hno2 : ∀ j, j < k + 1 → (partsD 3)[j]? ≠ some c := by
              intro j hj e
              rcases Nat.lt_or_ge j k with h | h
              · exact hno.out j h e
              · obtain rfl : j = k := by omega
                rw [hd] at e; injection e with e; exact hdc e
            clear hd hno hdc
            replace hno2 := Lib.hid hno2
            go_wp2_with fail
            go_roundg (1 - (k + 1))
            case measure => omega
            case rel => exact ⟨k + 1, by omega, by omega, by go_num, hno2.out, rfl⟩
        · have hnot : Hid (decide (c ∈ partsD 3) = false) := Lib.hid (decide_eq_false fun hm => by obtain ⟨j, hj, e⟩ := List.getElem_of_mem hm; have hjn : j < 1 := hj; exact hno.out j (by omega) (by rw [List.getElem?_eq_getElem hj, e]))
          clear hno
          go_wp2_with fail
          go_ret
          rw [hnot.out]
          exact ⟨rfl, rfl⟩
    · clear hx
      have hc8 : 0 ≤ c ∧ c < 256 := isD_rng hc
      clear hc
      go_enter Try.func20, Try.ntmps20
      go_wp2_with fail
      rw [show (⟨#[71]⟩ : ByteArray) = strOfNums (partsD 4) from by decide]
      have hsz : (strOfNums (partsD 4)).size = 1 := by decide
      go_loopg [6] 4 (fun gg s6 wr => ∃ (k : Nat), k ≤ 1 ∧ 1 - k ≤ gg ∧ s6 = .int .i64 (k : Nat) ∧ Aside (∀ j, j < k → (partsD 4)[j]? ≠ some c) ∧ Aside (w = wr))
      case atStart => exact ⟨0, by omega, by omega, rfl, (by intro j hj; omega), rfl⟩
      case round =>
        obtain ⟨k, hk, hg, rfl, hno, hw⟩ := hrel
        obtain rfl := hw.out
        by_cases hlt : k < 1
        · obtain ⟨d, hd⟩ : ∃ d, (partsD 4)[k]? = some d := ⟨_, List.getElem?_eq_getElem (show k < (partsD 4).length from hlt)⟩
          have hix := str_at hd (by rw [hsz]; exact hlt) (partsD_rng _ d (List.mem_of_getElem? hd))
          by_cases hdc : d = c
          · subst hdc
            have hyes : Hid (decide (d ∈ partsD 4) = true) := Lib.hid (decide_eq_true (List.mem_of_getElem? hd))
            clear hd hno
            go_wp2_with fail
            go_ret
            rw [hyes.out]
            exact ⟨rfl, rfl⟩
          · have hcd : (d == c) = false := by simpa using hdc
            have hno2 : ∀ j, j < k + 1 → (partsD 4)[j]? ≠ some c := by
              intro j hj e
              rcases Nat.lt_or_ge j k with h | h
              · exact hno.out j h e
              · obtain rfl : j = k := by omega
                rw [hd] at e; injection e with e; exact hdc e
            clear hd hno hdc
            replace hno2 := Lib.hid hno2
            go_wp2_with fail
            go_roundg (1 - (k + 1))
            case measure => omega
            case rel => exact ⟨k + 1, by omega, by omega, by go_num, hno2.out, rfl⟩
        · have hnot : Hid (decide (c ∈ partsD 4) = false) := Lib.hid (decide_eq_false fun hm => by obtain ⟨j, hj, e⟩ := List.getElem_of_mem hm; have hjn : j < 1 := hj; exact hno.out j (by omega) (by rw [List.getElem?_eq_getElem hj, e]))
          clear hno
          go_wp2_with fail
          go_ret
          rw [hnot.out]
          exact ⟨rfl, rfl⟩
    · clear hx
      have hc8 : 0 ≤ c ∧ c < 256 := isD_rng hc
      clear hc
      go_enter Try.func20, Try.ntmps20
      go_wp2_with fail
      rw [show (⟨#[71, 73, 86]⟩ : ByteArray) = strOfNums (partsD 5) from by decide]
      have hsz : (strOfNums (partsD 5)).size = 3 := by decide
      go_loopg [6] 4 (fun gg s6 wr => ∃ (k : Nat), k ≤ 3 ∧ 3 - k ≤ gg ∧ s6 = .int .i64 (k : Nat) ∧ Aside (∀ j, j < k → (partsD 5)[j]? ≠ some c) ∧ Aside (w = wr))
      case atStart => exact ⟨0, by omega, by omega, rfl, (by intro j hj; omega), rfl⟩
      case round =>
        obtain ⟨k, hk, hg, rfl, hno, hw⟩ := hrel
        obtain rfl := hw.out
        by_cases hlt : k < 3
        · obtain ⟨d, hd⟩ : ∃ d, (partsD 5)[k]? = some d := ⟨_, List.getElem?_eq_getElem (show k < (partsD 5).length from hlt)⟩
          have hix := str_at hd (by rw [hsz]; exact hlt) (partsD_rng _ d (List.mem_of_getElem? hd))
          by_cases hdc : d = c
          · subst hdc
            have hyes : Hid (decide (d ∈ partsD 5) = true) := Lib.hid (decide_eq_true (List.mem_of_getElem? hd))
            clear hd hno
            go_wp2_with fail
            go_ret
            rw [hyes.out]
            exact ⟨rfl, rfl⟩
          · have hcd : (d == c) = false := by simpa using hdc
            have hno2 : ∀ j, j < k + 1 → (partsD 5)[j]? ≠ some c := by
              intro j hj e
              rcases Nat.lt_or_ge j k with h | h
              · exact hno.out j h e
              · obtain rfl : j = k := by omega
                rw [hd] at e; injection e with e; exact hdc e
            clear hd hno hdc
            replace hno2 := Lib.hid hno2
            go_wp2_with fail
            go_roundg (3 - (k + 1))
            case measure => omega
            case rel => exact ⟨k + 1, by omega, by omega, by go_num, hno2.out, rfl⟩
        · have hnot : Hid (decide (c ∈ partsD 5) = false) := Lib.hid (decide_eq_false fun hm => by obtain ⟨j, hj, e⟩ := List.getElem_of_mem hm; have hjn : j < 3 := hj; exact hno.out j (by omega) (by rw [List.getElem?_eq_getElem hj, e]))
          clear hno
          go_wp2_with fail
          go_ret
          rw [hnot.out]
          exact ⟨rfl, rfl⟩
    · clear hx
      have hc8 : 0 ≤ c ∧ c < 256 := isD_rng hc
      clear hc
      go_enter Try.func20, Try.ntmps20
      go_wp2_with fail
      rw [show (⟨#[78]⟩ : ByteArray) = strOfNums (partsD 6) from by decide]
      have hsz : (strOfNums (partsD 6)).size = 1 := by decide
      go_loopg [6] 4 (fun gg s6 wr => ∃ (k : Nat), k ≤ 1 ∧ 1 - k ≤ gg ∧ s6 = .int .i64 (k : Nat) ∧ Aside (∀ j, j < k → (partsD 6)[j]? ≠ some c) ∧ Aside (w = wr))
      case atStart => exact ⟨0, by omega, by omega, rfl, (by intro j hj; omega), rfl⟩
      case round =>
        obtain ⟨k, hk, hg, rfl, hno, hw⟩ := hrel
        obtain rfl := hw.out
        by_cases hlt : k < 1
        · obtain ⟨d, hd⟩ : ∃ d, (partsD 6)[k]? = some d := ⟨_, List.getElem?_eq_getElem (show k < (partsD 6).length from hlt)⟩
          have hix := str_at hd (by rw [hsz]; exact hlt) (partsD_rng _ d (List.mem_of_getElem? hd))
          by_cases hdc : d = c
          · subst hdc
            have hyes : Hid (decide (d ∈ partsD 6) = true) := Lib.hid (decide_eq_true (List.mem_of_getElem? hd))
            clear hd hno
            go_wp2_with fail
            go_ret
            rw [hyes.out]
            exact ⟨rfl, rfl⟩
          · have hcd : (d == c) = false := by simpa using hdc
            have hno2 : ∀ j, j < k + 1 → (partsD 6)[j]? ≠ some c := by
              intro j hj e
              rcases Nat.lt_or_ge j k with h | h
              · exact hno.out j h e
              · obtain rfl : j = k := by omega
                rw [hd] at e; injection e with e; exact hdc e
            clear hd hno hdc
            replace hno2 := Lib.hid hno2
            go_wp2_with fail
            go_roundg (1 - (k + 1))
            case measure => omega
            case rel => exact ⟨k + 1, by omega, by omega, by go_num, hno2.out, rfl⟩
        · have hnot : Hid (decide (c ∈ partsD 6) = false) := Lib.hid (decide_eq_false fun hm => by obtain ⟨j, hj, e⟩ := List.getElem_of_mem hm; have hjn : j < 1 := hj; exact hno.out j (by omega) (by rw [List.getElem?_eq_getElem hj, e]))
          clear hno
          go_wp2_with fail
          go_ret
          rw [hnot.out]
          exact ⟨rfl, rfl⟩
    · clear hx
      have hc8 : 0 ≤ c ∧ c < 256 := isD_rng hc
      clear hc
      go_enter Try.func20, Try.ntmps20
      go_wp2_with fail
      rw [show (⟨#[65]⟩ : ByteArray) = strOfNums (partsD 7) from by decide]
      have hsz : (strOfNums (partsD 7)).size = 1 := by decide
      go_loopg [6] 4 (fun gg s6 wr => ∃ (k : Nat), k ≤ 1 ∧ 1 - k ≤ gg ∧ s6 = .int .i64 (k : Nat) ∧ Aside (∀ j, j < k → (partsD 7)[j]? ≠ some c) ∧ Aside (w = wr))
      case atStart => exact ⟨0, by omega, by omega, rfl, (by intro j hj; omega), rfl⟩
      case round =>
        obtain ⟨k, hk, hg, rfl, hno, hw⟩ := hrel
        obtain rfl := hw.out
        by_cases hlt : k < 1
        · obtain ⟨d, hd⟩ : ∃ d, (partsD 7)[k]? = some d := ⟨_, List.getElem?_eq_getElem (show k < (partsD 7).length from hlt)⟩
          have hix := str_at hd (by rw [hsz]; exact hlt) (partsD_rng _ d (List.mem_of_getElem? hd))
          by_cases hdc : d = c
          · subst hdc
            have hyes : Hid (decide (d ∈ partsD 7) = true) := Lib.hid (decide_eq_true (List.mem_of_getElem? hd))
            clear hd hno
            go_wp2_with fail
            go_ret
            rw [hyes.out]
            exact ⟨rfl, rfl⟩
          · have hcd : (d == c) = false := by simpa using hdc
            have hno2 : ∀ j, j < k + 1 → (partsD 7)[j]? ≠ some c := by
              intro j hj e
              rcases Nat.lt_or_ge j k with h | h
              · exact hno.out j h e
              · obtain rfl : j = k := by omega
                rw [hd] at e; injection e with e; exact hdc e
            clear hd hno hdc
            replace hno2 := Lib.hid hno2
            go_wp2_with fail
            go_roundg (1 - (k + 1))
            case measure => omega
            case rel => exact ⟨k + 1, by omega, by omega, by go_num, hno2.out, rfl⟩
        · have hnot : Hid (decide (c ∈ partsD 7) = false) := Lib.hid (decide_eq_false fun hm => by obtain ⟨j, hj, e⟩ := List.getElem_of_mem hm; have hjn : j < 1 := hj; exact hno.out j (by omega) (by rw [List.getElem?_eq_getElem hj, e]))
          clear hno
          go_wp2_with fail
          go_ret
          rw [hnot.out]
          exact ⟨rfl, rfl⟩
    · clear hx
      have hc8 : 0 ≤ c ∧ c < 256 := isD_rng hc
      clear hc
      go_enter Try.func20, Try.ntmps20
      go_wp2_with fail
      rw [show (⟨#[78]⟩ : ByteArray) = strOfNums (partsD 8) from by decide]
      have hsz : (strOfNums (partsD 8)).size = 1 := by decide
      go_loopg [6] 4 (fun gg s6 wr => ∃ (k : Nat), k ≤ 1 ∧ 1 - k ≤ gg ∧ s6 = .int .i64 (k : Nat) ∧ Aside (∀ j, j < k → (partsD 8)[j]? ≠ some c) ∧ Aside (w = wr))
      case atStart => exact ⟨0, by omega, by omega, rfl, (by intro j hj; omega), rfl⟩
      case round =>
        obtain ⟨k, hk, hg, rfl, hno, hw⟩ := hrel
        obtain rfl := hw.out
        by_cases hlt : k < 1
        · obtain ⟨d, hd⟩ : ∃ d, (partsD 8)[k]? = some d := ⟨_, List.getElem?_eq_getElem (show k < (partsD 8).length from hlt)⟩
          have hix := str_at hd (by rw [hsz]; exact hlt) (partsD_rng _ d (List.mem_of_getElem? hd))
          by_cases hdc : d = c
          · subst hdc
            have hyes : Hid (decide (d ∈ partsD 8) = true) := Lib.hid (decide_eq_true (List.mem_of_getElem? hd))
            clear hd hno
            go_wp2_with fail
            go_ret
            rw [hyes.out]
            exact ⟨rfl, rfl⟩
          · have hcd : (d == c) = false := by simpa using hdc
            have hno2 : ∀ j, j < k + 1 → (partsD 8)[j]? ≠ some c := by
              intro j hj e
              rcases Nat.lt_or_ge j k with h | h
              · exact hno.out j h e
              · obtain rfl : j = k := by omega
                rw [hd] at e; injection e with e; exact hdc e
            clear hd hno hdc
            replace hno2 := Lib.hid hno2
            go_wp2_with fail
            go_roundg (1 - (k + 1))
            case measure => omega
            case rel => exact ⟨k + 1, by omega, by omega, by go_num, hno2.out, rfl⟩
        · have hnot : Hid (decide (c ∈ partsD 8) = false) := Lib.hid (decide_eq_false fun hm => by obtain ⟨j, hj, e⟩ := List.getElem_of_mem hm; have hjn : j < 1 := hj; exact hno.out j (by omega) (by rw [List.getElem?_eq_getElem hj, e]))
          clear hno
          go_wp2_with fail
          go_ret
          rw [hnot.out]
          exact ⟨rfl, rfl⟩
  · have e : partsD x = [] := by
      unfold partsD
      rw [if_neg (by omega), if_neg (by omega), if_neg (by omega), if_neg (by omega), if_neg (by omega), if_neg (by omega)]
    rw [e]
    clear e
    have h0 : (x == 0) = false := by simp; omega
    have h1 : (x == 1) = false := by simp; omega
    have h2 : (x == 2) = false := by simp; omega
    have h3 : (x == 3) = false := by simp; omega
    have h4 : (x == 4) = false := by simp; omega
    have h5 : (x == 5) = false := by simp; omega
    have h6 : (x == 6) = false := by simp; omega
    have h7 : (x == 7) = false := by simp; omega
    have h8 : (x == 8) = false := by simp; omega
    clear hx hc
    go_enter Try.func20, Try.ntmps20
    go_wp2_with fail
    go_loopg [6] 4 (fun gg s6 wr => s6 = .int .i64 0 ∧ Aside (w = wr))
    case atStart => exact ⟨rfl, rfl⟩
    case round =>
      obtain ⟨rfl, hw⟩ := hrel
      obtain rfl := hw.out
      go_wp2_with fail
      go_ret
      exact ⟨rfl, rfl⟩

set_option maxRecDepth 100000 in
set_option maxHeartbeats 4000000 in
theorem REight_any {w0 w : World} (A : Option Addr) (n c : Nat) (L : List Int) (v : Int) (_hv : 0 ≤ v ∧ v < 18446744073709551616) (lg : LG (numE .u8) w0 w 5 (.slice A n c) L) (hn : L.length = n) (hb : n ≤ 100000000) :
    Calls Try.prog 29 #[.slice A n c, .int .u64 v] w fun e w' => ∃ A' c', e = .returned (.slice A' (L ++ b8 v).length c') ∧ LG (numE .u8) w0 w' 5 (.slice A' (L ++ b8 v).length c') (L ++ b8 v) := by
  go_enter Try.func29, Try.ntmps29
  go_wp2_with fail
  go_loopg [0, 5] 8 (fun gg s0 s5 wr => ∃ (j : Nat) (z : Int) (A' : Option Addr) (m' c' : Nat) (N : List Int), j ≤ gg ∧ Aside (j ≤ 8) ∧ Aside (z = j - 1) ∧ s0 = .slice A' m' c' ∧ s5 = .int .i64 z ∧ Aside (m' = N.length) ∧ Aside (N ++ lowB v j = L ++ b8 v) ∧ Aside (LG (numE .u8) w0 wr 5 (.slice A' m' c') N))
  case atStart => exact ⟨8, 7, A, n, c, L, by omega, by show 8 ≤ 8; omega, rfl, rfl, rfl, hn.symm, (by rw [lowB_8]; rfl), lg⟩
  case round =>
    obtain ⟨j, z, A', m', c', N, hjg, hj8, hz, rfl, rfl, hm, hN, lg⟩ := hrel
    replace lg := lg.out; replace hz := hz.out
    by_cases hj : 0 < j
    · obtain ⟨i, rfl⟩ : ∃ i, j = i + 1 := ⟨j - 1, by omega⟩
      obtain rfl : z = (i : Int) := by omega
      clear hz
      have hi8 : i < 8 := by have := hj8.out; omega
      have hroom : N.length + 1 ≤ 200000000 := by have h1 := congrArg List.length hN.out; simp only [List.length_append, b8_len] at h1; rw [hn] at h1; have := hm.out; omega
      have lg5 := lg.new ((Chg.refl [] _).alloc (.cells #[.int .u8 (v / 2 ^ (8 * i) % 256)] 5))
      replace hm := hm.out
      replace hm := Lib.hid hm
      go_wp2_with (at_builtin; refine wpList_append_G rfl _ _ 23 rfl 5 (.int .u8 0) 1 Try.underlying23 (by kernel_rfl) rfl (.slice A' m' c') (N) rfl (lg5.2.1) (some ⟨wr.heap.size, 0, none⟩) 1 1 [v / 2 ^ (8 * i) % 256] rfl (OwnG.src (OwnG.lit (L := [v / 2 ^ (8 * i) % 256]) (Blk.new wr 5 #[.int .u8 (v / 2 ^ (8 * i) % 256)]) (by simp))) rfl (by omega) ?_; intro v8 w8 ho8 hc8 hv8; obtain ⟨A8, c8, rfl, _, _⟩ := ho8.form)
      have lg8 := lg5.app ho8 hc8 hv8
      clear lg lg5 ho8 hc8 hv8
      go_roundg i
      case measure => omega
      case rel => exact ⟨i, (i : Int) - 1, A8, N.length + 1, c8, N ++ [v / 2 ^ (8 * i) % 256], by omega, by show i ≤ 8; omega, rfl, rfl, by go_num, (by show N.length + 1 = _; simp), (by have h := hN.out; rw [low_two] at h; show _ ++ _ = _; rw [← h]; simp), lg8.len_ (by simp)⟩
    · obtain rfl : j = 0 := by omega
      obtain rfl : z = -1 := by omega
      clear hz
      have hN2 := hN.out
      rw [show lowB v 0 = [] from rfl, List.append_nil] at hN2
      replace hN2 := Lib.hid hN2
      replace hm := Lib.hid hm.out
      clear hN
      go_wp2_with fail
      go_ret
      rw [← hN2.out]
      exact ⟨A', c', by rw [hm.out]; rfl, lg.len_ hm.out⟩

set_option maxRecDepth 100000 in
theorem RNumber_any (A : Option Addr) (c : Nat) (L : List Int) (w : World) (hs : SlG (numE .u8) w A 8 L) (hr : ∀ x ∈ L, 0 ≤ x ∧ x < 256) : Calls Try.prog 21 #[.slice A 8 c] w fun e w' => e = .returned (.int .u64 (n8 L)) ∧ w = w' := by
  have hll := Lib.hid hs.len
  go_enter Try.func21, Try.ntmps21
  go_wp2_with fail
  go_loopg [3, 4] 8 (fun gg s3 s4 wr => ∃ (k : Nat), k ≤ 8 ∧ 8 - k ≤ gg ∧ s3 = .int .u64 (n8 (L.take k)) ∧ s4 = .int .i64 k ∧ Aside (w = wr))
  case atStart => exact ⟨0, by omega, by omega, rfl, rfl, rfl⟩
  case round =>
    obtain ⟨k, hk, hg, rfl, rfl, hw⟩ := hrel
    obtain rfl := hw.out
    by_cases hlt : k < 8
    · obtain ⟨b, off, x, rfl, hb, hx, c0⟩ := SlN.get hs (i := k) hlt
      have hn := n8_take (L := L) (k := k) (by rw [hll.out]; exact hlt) (by rw [hll.out]; exact Nat.le_refl _) hr
      have hx8 := hr x (List.mem_of_getElem? hx)
      have hst : Hid (n8 (L.take (k + 1)) = 256 * n8 (L.take k) + x) := Lib.hid (by rw [take_at hx, n8_snoc])
      clear hx
      generalize n8 (L.take k) = N at *
      have hsh : IntKind.u64.wrap (256 * N) = 256 * N := by rw [IntKind.wrap_u64]; omega
      have hsh2 : IntKind.u64.wrap (256 * N + x) = 256 * N + x := by rw [IntKind.wrap_u64]; omega
      go_wp2_with fail
      go_roundg (8 - (k + 1))
      case measure => omega
      case rel => exact ⟨k + 1, by omega, by omega, by rw [hst.out], by go_num, rfl⟩
    · have hkm : Hid (L.take k = L) := Lib.hid (by rw [List.take_of_length_le]; rw [hll.out]; omega)
      obtain rfl : k = 8 := by omega
      go_wp2_with fail
      go_ret
      exact ⟨by rw [hkm.out]; rfl, rfl⟩

end Go.Proofs.Ytdmcicgappgiiaa
