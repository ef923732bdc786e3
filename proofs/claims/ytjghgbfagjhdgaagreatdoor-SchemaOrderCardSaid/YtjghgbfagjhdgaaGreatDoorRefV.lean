/- The reference's Valid and Sign: they say what the program's own say. -/
import Derived.Test.YtjghgbfagjhdgaaGreatDoorDigits
namespace Go.Proofs.YtjghgbfagjhdgaaGreatDoor
open Go Go.RowKit

set_option maxHeartbeats 400000 in
set_option maxRecDepth 100000 in
theorem rvalid_zero {w : World} (s : ByteArray) (h : (s.toList == [48]) = true) :
    Calls Tryz.prog 186 #[.string s] w fun e w' => e = .returned (.bool true) ∧ w = w' := by
  go_enter Tryz.func186, Tryz.ntmps186
  go_wp2
  go_ret
  exact ⟨rfl, rfl⟩
set_option maxHeartbeats 400000 in
set_option maxRecDepth 100000 in
theorem rvalid_empty {w : World} (s : ByteArray) (h : (s.toList == [48]) = false) (h0 : s.size = 0) :
    Calls Tryz.prog 186 #[.string s] w fun e w' => e = .returned (.bool false) ∧ w = w' := by
  go_enter Tryz.func186, Tryz.ntmps186
  go_wp2
  go_ret
  exact ⟨rfl, rfl⟩
set_option maxHeartbeats 400000 in
set_option maxRecDepth 100000 in
theorem rvalid_m_short {w : World} (s t : ByteArray) (h : (s.toList == [48]) = false) (h0 : 0 < s.size) (hc : ((s[0].toNat : Int) == 45) = true) (ht : s.extract 1 s.size = t) (h1 : t.size = 0) :
    Calls Tryz.prog 186 #[.string s] w fun e w' => e = .returned (.bool false) ∧ w = w' := by
  have he : t = ByteArray.empty := by
    apply ByteArray.ext; apply Array.ext'
    exact List.eq_nil_of_length_eq_zero (by rw [← Lib.size_eq]; exact h1)
  subst he
  go_enter Tryz.func186, Tryz.ntmps186
  go_wp2
  go_ret
  exact ⟨rfl, rfl⟩
set_option maxHeartbeats 400000 in
set_option maxRecDepth 100000 in
theorem rvalid_m_long {w : World} (s t : ByteArray) (h : (s.toList == [48]) = false) (h0 : 0 < s.size) (hc : ((s[0].toNat : Int) == 45) = true) (ht : s.extract 1 s.size = t) (h1 : 400 < t.size) :
    Calls Tryz.prog 186 #[.string s] w fun e w' => e = .returned (.bool false) ∧ w = w' := by
  have hz0 : ((t.size : Int) == 0) = false := by rw [beq_eq_false_iff_ne]; omega
  go_enter Tryz.func186, Tryz.ntmps186
  go_wp2
  go_ret
  exact ⟨rfl, rfl⟩
set_option maxHeartbeats 400000 in
set_option maxRecDepth 100000 in
theorem rvalid_m_lead {w : World} (s t : ByteArray) (h : (s.toList == [48]) = false) (h0 : 0 < s.size) (hc : ((s[0].toNat : Int) == 45) = true) (ht : s.extract 1 s.size = t) (h1 : 0 < t.size) (h2 : t.size ≤ 400) (hl : ((t[0].toNat : Int) == 48) = true) :
    Calls Tryz.prog 186 #[.string s] w fun e w' => e = .returned (.bool false) ∧ w = w' := by
  have hz0 : ((t.size : Int) == 0) = false := by rw [beq_eq_false_iff_ne]; omega
  go_enter Tryz.func186, Tryz.ntmps186
  go_wp2
  go_ret
  exact ⟨rfl, rfl⟩
set_option maxHeartbeats 800000 in
set_option maxRecDepth 100000 in
theorem rvalid_m_loop {w : World} (s t : ByteArray) (h : (s.toList == [48]) = false) (h0 : 0 < s.size) (hc : ((s[0].toNat : Int) == 45) = true) (ht : s.extract 1 s.size = t) (h1 : 0 < t.size) (h2 : t.size ≤ 400) (hl : ((t[0].toNat : Int) == 48) = false) {r : Bool} (hr : r = t.data.toList.all T.digit) :
    Calls Tryz.prog 186 #[.string s] w fun e w' => e = .returned (.bool r) ∧ w = w' := by
  have HRR := Lib.hid hr
  clear hr
  have hlen : t.data.toList.length = t.size := (Lib.size_eq t).symm
  have HL := Lib.hid hlen
  clear hlen
  have hz0 : ((t.size : Int) == 0) = false := by rw [beq_eq_false_iff_ne]; omega
  go_enter Tryz.func186, Tryz.ntmps186
  go_wp2_with fail
  go_loop [4] (fun iv => ∃ k : Nat, k ≤ t.size ∧ iv = .int .i64 (k : Int) ∧ ∀ i c, i < k → t.data.toList[i]? = some c → T.digit c = true) (fun iv => t.size - (intOf iv).toNat)
  case atStart => exact ⟨0, Nat.zero_le _, rfl, fun i c hi _ => absurd hi (by omega)⟩
  case round =>
    obtain ⟨k, hk, rfl, hall⟩ := hrel
    have HA := Lib.hid hall
    clear hall
    by_cases hlt : k < t.size
    · obtain ⟨c, hcd⟩ : ∃ c, t[k] = c := ⟨_, rfl⟩
      have hk2 : t.data.toList[k]? = some c := by
        rw [← hcd, List.getElem?_eq_getElem (by rw [HL.out]; exact hlt)]; rfl
      have hb := byte_lt c
      have HK := Lib.hid hk2
      clear hk2
      by_cases hl : c.toNat < 48
      · have HF := Lib.hid (show r = false from by
          rw [HRR.out, List.all_eq_false]
          exact ⟨c, List.mem_of_getElem? HK.out, by rw [T.digit_iff]; omega⟩)
        go_wp2
        go_ret
        exact ⟨by rw [HF.out]; rfl, rfl⟩
      · by_cases hg : 57 < c.toNat
        · have HF := Lib.hid (show r = false from by
            rw [HRR.out, List.all_eq_false]
            exact ⟨c, List.mem_of_getElem? HK.out, by rw [T.digit_iff]; omega⟩)
          go_wp2
          go_ret
          exact ⟨by rw [HF.out]; rfl, rfl⟩
        · have HD := Lib.hid (T.digit_iff.2 (show 48 ≤ c.toNat ∧ c.toNat ≤ 57 by omega))
          go_wp2
          go_round
          case rel =>
            refine ⟨k + 1, by omega, by go_num, fun i c' hi hc' => ?_⟩
            rcases Nat.lt_or_ge i k with h2 | h2
            · exact HA.out i c' h2 hc'
            · obtain rfl : i = k := by omega
              rw [HK.out] at hc'
              injection hc' with hc'
              rw [← hc']; exact HD.out
          case measure => simp [intOf]; omega
    · obtain rfl : k = t.size := by omega
      have HF := Lib.hid (show r = true from by
        rw [HRR.out, List.all_eq_true]
        intro c hc
        obtain ⟨i, hi, he⟩ := List.mem_iff_getElem.1 hc
        exact HA.out i c (by rw [← HL.out]; exact hi) (by rw [List.getElem?_eq_getElem hi, he]))
      go_wp2
      go_ret
      exact ⟨by rw [HF.out]; rfl, rfl⟩
set_option maxHeartbeats 400000 in
set_option maxRecDepth 100000 in
theorem rvalid_p_long {w : World} (t : ByteArray) (h : (t.toList == [48]) = false) (h0 : 0 < t.size) (hc : ((t[0].toNat : Int) == 45) = false) (h1 : 400 < t.size) :
    Calls Tryz.prog 186 #[.string t] w fun e w' => e = .returned (.bool false) ∧ w = w' := by
  have hz0 : ((t.size : Int) == 0) = false := by rw [beq_eq_false_iff_ne]; omega
  go_enter Tryz.func186, Tryz.ntmps186
  go_wp2
  go_ret
  exact ⟨rfl, rfl⟩
set_option maxHeartbeats 400000 in
set_option maxRecDepth 100000 in
theorem rvalid_p_lead {w : World} (t : ByteArray) (h : (t.toList == [48]) = false) (h0 : 0 < t.size) (hc : ((t[0].toNat : Int) == 45) = false) (h1 : 0 < t.size) (h2 : t.size ≤ 400) (hl : ((t[0].toNat : Int) == 48) = true) :
    Calls Tryz.prog 186 #[.string t] w fun e w' => e = .returned (.bool false) ∧ w = w' := by
  have hz0 : ((t.size : Int) == 0) = false := by rw [beq_eq_false_iff_ne]; omega
  go_enter Tryz.func186, Tryz.ntmps186
  go_wp2
  go_ret
  exact ⟨rfl, rfl⟩
set_option maxHeartbeats 800000 in
set_option maxRecDepth 100000 in
theorem rvalid_p_loop {w : World} (t : ByteArray) (h : (t.toList == [48]) = false) (h0 : 0 < t.size) (hc : ((t[0].toNat : Int) == 45) = false) (h1 : 0 < t.size) (h2 : t.size ≤ 400) (hl : ((t[0].toNat : Int) == 48) = false) {r : Bool} (hr : r = t.data.toList.all T.digit) :
    Calls Tryz.prog 186 #[.string t] w fun e w' => e = .returned (.bool r) ∧ w = w' := by
  have HRR := Lib.hid hr
  clear hr
  have hlen : t.data.toList.length = t.size := (Lib.size_eq t).symm
  have HL := Lib.hid hlen
  clear hlen
  have hz0 : ((t.size : Int) == 0) = false := by rw [beq_eq_false_iff_ne]; omega
  go_enter Tryz.func186, Tryz.ntmps186
  go_wp2_with fail
  go_loop [4] (fun iv => ∃ k : Nat, k ≤ t.size ∧ iv = .int .i64 (k : Int) ∧ ∀ i c, i < k → t.data.toList[i]? = some c → T.digit c = true) (fun iv => t.size - (intOf iv).toNat)
  case atStart => exact ⟨0, Nat.zero_le _, rfl, fun i c hi _ => absurd hi (by omega)⟩
  case round =>
    obtain ⟨k, hk, rfl, hall⟩ := hrel
    have HA := Lib.hid hall
    clear hall
    by_cases hlt : k < t.size
    · obtain ⟨c, hcd⟩ : ∃ c, t[k] = c := ⟨_, rfl⟩
      have hk2 : t.data.toList[k]? = some c := by
        rw [← hcd, List.getElem?_eq_getElem (by rw [HL.out]; exact hlt)]; rfl
      have hb := byte_lt c
      have HK := Lib.hid hk2
      clear hk2
      by_cases hl : c.toNat < 48
      · have HF := Lib.hid (show r = false from by
          rw [HRR.out, List.all_eq_false]
          exact ⟨c, List.mem_of_getElem? HK.out, by rw [T.digit_iff]; omega⟩)
        go_wp2
        go_ret
        exact ⟨by rw [HF.out]; rfl, rfl⟩
      · by_cases hg : 57 < c.toNat
        · have HF := Lib.hid (show r = false from by
            rw [HRR.out, List.all_eq_false]
            exact ⟨c, List.mem_of_getElem? HK.out, by rw [T.digit_iff]; omega⟩)
          go_wp2
          go_ret
          exact ⟨by rw [HF.out]; rfl, rfl⟩
        · have HD := Lib.hid (T.digit_iff.2 (show 48 ≤ c.toNat ∧ c.toNat ≤ 57 by omega))
          go_wp2
          go_round
          case rel =>
            refine ⟨k + 1, by omega, by go_num, fun i c' hi hc' => ?_⟩
            rcases Nat.lt_or_ge i k with h2 | h2
            · exact HA.out i c' h2 hc'
            · obtain rfl : i = k := by omega
              rw [HK.out] at hc'
              injection hc' with hc'
              rw [← hc']; exact HD.out
          case measure => simp [intOf]; omega
    · obtain rfl : k = t.size := by omega
      have HF := Lib.hid (show r = true from by
        rw [HRR.out, List.all_eq_true]
        intro c hc
        obtain ⟨i, hi, he⟩ := List.mem_iff_getElem.1 hc
        exact HA.out i c (by rw [← HL.out]; exact hi) (by rw [List.getElem?_eq_getElem hi, he]))
      go_wp2
      go_ret
      exact ⟨by rw [HF.out]; rfl, rfl⟩
theorem trim_cons (l : List UInt8) : Lib.trimPrefix (45 :: l) [45] = l := by
  unfold Lib.trimPrefix Lib.hasPrefix; simp [List.isPrefixOf]
theorem trim_other {l : List UInt8} (h : l.head? ≠ some 45) : Lib.trimPrefix l [45] = l := by
  unfold Lib.trimPrefix Lib.hasPrefix
  cases l with
  | nil => rfl
  | cons c r =>
    have : ¬ (45 : UInt8) = c := fun e => h (by rw [← e]; rfl)
    simp [List.isPrefixOf, this]
theorem rvalid_any {w : World} (s : ByteArray) : Calls Tryz.prog 186 #[.string s] w fun e w' => e = .returned (.bool (vld s.data.toList)) ∧ w = w' := by
  unfold vld
  by_cases hz : s.data.toList = [48]
  · have h : (s.toList == [48]) = true := by rw [Lib.toList_data, hz]; rfl
    rw [hz]
    exact rvalid_zero s h
  · have h : (s.toList == [48]) = false := by rw [Lib.toList_data]; simpa using hz
    have h' : (s.data.toList == [48]) = false := by simpa using hz
    rw [h', Bool.false_or]
    have hls : s.data.toList.length = s.size := (Lib.size_eq s).symm
    by_cases h0 : s.size = 0
    · have hn : s.data.toList = [] := List.eq_nil_of_length_eq_zero (by rw [hls]; exact h0)
      rw [hn]
      exact rvalid_empty s h h0
    have hp : 0 < s.size := by omega
    have hhs : s.data.toList.head? = some s[0] := by
      rw [List.head?_eq_getElem?, List.getElem?_eq_getElem (by omega)]; rfl
    by_cases h45 : s[0] = 45
    · have hc : ((s[0].toNat : Int) == 45) = true := by rw [h45]; rfl
      obtain ⟨t, ht⟩ : ∃ t, s.extract 1 s.size = t := ⟨_, rfl⟩
      have htl : t.data.toList = s.data.toList.tail := by
        rw [← ht]
        have h : s.data.toList.tail.length ≤ s.size - 1 := by rw [List.length_tail, ← Lib.size_eq]; exact Nat.le_refl _
        simp [ByteArray.data_extract, Array.toList_extract, List.extract, List.take_of_length_le h]
      have hd : Lib.trimPrefix s.data.toList [45] = t.data.toList := by
        rw [htl]
        cases hl : s.data.toList with
        | nil => rw [hl] at hls; simp at hls; omega
        | cons c r =>
          rw [hl] at hhs
          obtain rfl : c = 45 := by injection hhs with e; rw [e, h45]
          exact trim_cons r
      have hl : t.data.toList.length = t.size := (Lib.size_eq t).symm
      rw [hd]
      by_cases h1 : t.size = 0
      · have hn : t.data.toList = [] := List.eq_nil_of_length_eq_zero (by rw [hl]; exact h1)
        rw [hn]
        exact rvalid_m_short s t h hp hc ht h1
      · by_cases h4 : 400 < t.size
        · rw [decide_eq_false (show ¬ t.data.toList.length ≤ 400 by omega), Bool.and_false, Bool.false_and, Bool.false_and]
          exact rvalid_m_long s t h hp hc ht h4
        · have hpos : 0 < t.size := by omega
          have hhd : t.data.toList.head? = some t[0] := by
            rw [List.head?_eq_getElem?, List.getElem?_eq_getElem (by omega)]; rfl
          rw [decide_eq_true (show 1 ≤ t.data.toList.length by omega), decide_eq_true (show t.data.toList.length ≤ 400 by omega), hhd]
          by_cases h8 : t[0] = 48
          · have hc8 : ((t[0].toNat : Int) == 48) = true := by rw [h8]; rfl
            rw [show (some t[0] == some 48) = true by rw [h8]; rfl]
            exact rvalid_m_lead s t h hp hc ht hpos (by omega) hc8
          · have hc8 : ((t[0].toNat : Int) == 48) = false := by
              rw [beq_eq_false_iff_ne]
              intro e
              apply h8
              apply UInt8.toNat.inj
              have : t[0].toNat = 48 := by omega
              rw [this]; rfl
            rw [show (some t[0] == some 48) = false by simpa using h8]
            exact rvalid_m_loop s t h hp hc ht hpos (by omega) hc8 (by simp)
    · have hc : ((s[0].toNat : Int) == 45) = false := by
        rw [beq_eq_false_iff_ne]
        intro e
        apply h45
        apply UInt8.toNat.inj
        have : s[0].toNat = 45 := by omega
        rw [this]; rfl
      rw [trim_other (by rw [hhs]; simpa using h45)]
      by_cases h4 : 400 < s.size
      · rw [decide_eq_false (show ¬ s.data.toList.length ≤ 400 by omega), Bool.and_false, Bool.false_and, Bool.false_and]
        exact rvalid_p_long s h hp hc h4
      · rw [decide_eq_true (show 1 ≤ s.data.toList.length by omega), decide_eq_true (show s.data.toList.length ≤ 400 by omega), hhs]
        by_cases h8 : s[0] = 48
        · have hc8 : ((s[0].toNat : Int) == 48) = true := by rw [h8]; rfl
          rw [show (some s[0] == some 48) = true by rw [h8]; rfl]
          exact rvalid_p_lead s h hp hc hp (by omega) hc8
        · have hc8 : ((s[0].toNat : Int) == 48) = false := by
            rw [beq_eq_false_iff_ne]
            intro e
            apply h8
            apply UInt8.toNat.inj
            have : s[0].toNat = 48 := by omega
            rw [this]; rfl
          rw [show (some s[0] == some 48) = false by simpa using h8]
          exact rvalid_p_loop s h hp hc hp (by omega) hc8 (by simp)
theorem rvalid_b {w : World} (s : ByteArray) {b : Bool} (h : vld s.data.toList = b) : Calls Tryz.prog 186 #[.string s] w fun e w' => e = .returned (.bool b) ∧ w = w' := by
  subst h
  exact rvalid_any s
end Go.Proofs.YtjghgbfagjhdgaaGreatDoor
