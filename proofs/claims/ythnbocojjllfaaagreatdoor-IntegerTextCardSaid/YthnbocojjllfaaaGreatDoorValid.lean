/- integer.Valid. -/
import Derived.Test.YthnbocojjllfaaaGreatDoorWrite
namespace Go.Proofs.YthnbocojjllfaaaGreatDoor
open Go Go.RowKit

set_option maxHeartbeats 400000 in
set_option maxRecDepth 100000 in
theorem valid_zero {w : World} (s : ByteArray) (h : (s.toList == [48]) = true) :
    Calls Tryz.prog 24 #[.string s] w fun e w' => e = .returned (.bool true) ∧ w = w' := by
  go_enter Tryz.func24, Tryz.ntmps24
  go_wp2
  go_ret
  exact ⟨rfl, rfl⟩
set_option maxHeartbeats 400000 in
set_option maxRecDepth 100000 in
theorem valid_short {w : World} (s : ByteArray) {d : List UInt8} (h : (s.toList == [48]) = false) (hd : Lib.trimPrefix s.data.toList [45] = d) (h0 : d = []) :
    Calls Tryz.prog 24 #[.string s] w fun e w' => e = .returned (.bool false) ∧ w = w' := by
  subst h0
  go_enter Tryz.func24, Tryz.ntmps24
  go_wp2_with fail
  refine (trim_minus s hd).mono ?_
  rintro e w1 ⟨rfl, rfl⟩
  go_wp2
  go_ret
  exact ⟨rfl, rfl⟩
set_option maxHeartbeats 400000 in
set_option maxRecDepth 100000 in
theorem valid_long {w : World} (s : ByteArray) {d : List UInt8} (h : (s.toList == [48]) = false) (hd : Lib.trimPrefix s.data.toList [45] = d) (h0 : 400 < d.length) :
    Calls Tryz.prog 24 #[.string s] w fun e w' => e = .returned (.bool false) ∧ w = w' := by
  have H := Lib.hid hd
  clear hd
  go_enter Tryz.func24, Tryz.ntmps24
  go_wp2_with fail
  refine (trim_minus s H.out).mono ?_
  rintro e w1 ⟨rfl, rfl⟩
  go_wp2
  go_ret
  exact ⟨rfl, rfl⟩
theorem trim_minus_b {w : World} (s : ByteArray) {t : ByteArray} (h2 : Lib.trimPrefix s.data.toList [45] = t.data.toList) :
    Calls Tryz.prog 81 #[.string s, .string ⟨#[45]⟩] w fun e w' => e = .returned (.string t) ∧ w = w' := by
  refine (trim_minus s h2).mono ?_
  rintro e w' ⟨rfl, rfl⟩
  exact ⟨rfl, rfl⟩
set_option maxHeartbeats 400000 in
set_option maxRecDepth 100000 in
theorem valid_lead {w : World} (s : ByteArray) {t : ByteArray} (h : (s.toList == [48]) = false) (hd : Lib.trimPrefix s.data.toList [45] = t.data.toList) (h1 : 0 < t.size) (h0 : t.size ≤ 400) (hc : ((t[0].toNat : Int) == 48) = true) :
    Calls Tryz.prog 24 #[.string s] w fun e w' => e = .returned (.bool false) ∧ w = w' := by
  have H := Lib.hid hd
  clear hd
  go_enter Tryz.func24, Tryz.ntmps24
  go_wp2_with fail
  refine (trim_minus_b s H.out).mono ?_
  rintro e w1 ⟨rfl, rfl⟩
  go_wp2
  go_ret
  exact ⟨rfl, rfl⟩
theorem byte_lt (c : UInt8) : c.toNat ≤ 255 := by have := c.toNat_lt; omega
set_option maxHeartbeats 800000 in
set_option maxRecDepth 100000 in
theorem valid_loop {w : World} (s : ByteArray) {t : ByteArray} (h : (s.toList == [48]) = false) (hd : Lib.trimPrefix s.data.toList [45] = t.data.toList) (h1 : 0 < t.size) (h0 : t.size ≤ 400) (hc : ((t[0].toNat : Int) == 48) = false) {r : Bool} (hr : r = t.data.toList.all T.digit) :
    Calls Tryz.prog 24 #[.string s] w fun e w' => e = .returned (.bool r) ∧ w = w' := by
  have H := Lib.hid hd
  have HRR := Lib.hid hr
  clear hd hr
  have hlen : t.data.toList.length = t.size := (Lib.size_eq t).symm
  go_enter Tryz.func24, Tryz.ntmps24
  go_wp2_with fail
  refine (trim_minus_b s H.out).mono ?_
  rintro e w1 ⟨rfl, rfl⟩
  have HL := Lib.hid hlen
  clear hlen
  go_wp2_with fail
  go_loop [24] (fun iv => ∃ k : Nat, k ≤ t.size ∧ iv = .int .i64 (k : Int) ∧ ∀ i c, i < k → t.data.toList[i]? = some c → T.digit c = true) (fun iv => t.size - (intOf iv).toNat)
  case atStart => exact ⟨0, Nat.zero_le _, rfl, fun i c hi _ => absurd hi (by omega)⟩
  case round =>
    obtain ⟨k, hk, rfl, hall⟩ := hrel
    have HA := Lib.hid hall
    clear hall
    by_cases hlt : k < t.size
    · obtain ⟨c, hcd⟩ : ∃ c, t[k] = c := ⟨_, rfl⟩
      have hk2 : t.data.toList[k]? = some c := by
        rw [← hcd, List.getElem?_eq_getElem (by rw [HL.out]; exact hlt)]; rfl
      have hb := byte_lt c
      have HK := Lib.hid hk2
      clear hk2
      by_cases hl : c.toNat < 48
      · have HF := Lib.hid (show r = false from by
          rw [HRR.out, List.all_eq_false]
          exact ⟨c, List.mem_of_getElem? HK.out, by rw [T.digit_iff]; omega⟩)
        go_wp2
        go_ret
        exact ⟨by rw [HF.out]; rfl, rfl⟩
      · by_cases hg : 57 < c.toNat
        · have HF := Lib.hid (show r = false from by
            rw [HRR.out, List.all_eq_false]
            exact ⟨c, List.mem_of_getElem? HK.out, by rw [T.digit_iff]; omega⟩)
          go_wp2
          go_ret
          exact ⟨by rw [HF.out]; rfl, rfl⟩
        · have HD := Lib.hid (T.digit_iff.2 (show 48 ≤ c.toNat ∧ c.toNat ≤ 57 by omega))
          go_wp2
          go_round
          case rel =>
            refine ⟨k + 1, by omega, by go_num, fun i c' hi hc' => ?_⟩
            rcases Nat.lt_or_ge i k with h2 | h2
            · exact HA.out i c' h2 hc'
            · obtain rfl : i = k := by omega
              rw [HK.out] at hc'
              injection hc' with hc'
              rw [← hc']; exact HD.out
          case measure => simp [intOf]; omega
    · obtain rfl : k = t.size := by omega
      have HF := Lib.hid (show r = true from by
        rw [HRR.out, List.all_eq_true]
        intro c hc
        obtain ⟨i, hi, he⟩ := List.mem_iff_getElem.1 hc
        exact HA.out i c (by rw [← HL.out]; exact hi) (by rw [List.getElem?_eq_getElem hi, he]))
      go_wp2
      go_ret
      exact ⟨by rw [HF.out]; rfl, rfl⟩

/-- Is a text canonical? -/
def vld (l : List UInt8) : Bool :=
  l == [48] || (decide (1 ≤ (Lib.trimPrefix l [45]).length) && decide ((Lib.trimPrefix l [45]).length ≤ 400) && !((Lib.trimPrefix l [45]).head? == some 48) && (Lib.trimPrefix l [45]).all T.digit)
theorem valid_any {w : World} (s : ByteArray) : Calls Tryz.prog 24 #[.string s] w fun e w' => e = .returned (.bool (vld s.data.toList)) ∧ w = w' := by
  unfold vld
  by_cases hz : s.data.toList = [48]
  · have h : (s.toList == [48]) = true := by rw [Lib.toList_data, hz]; rfl
    rw [hz]
    exact valid_zero s h
  · have h : (s.toList == [48]) = false := by rw [Lib.toList_data]; simpa using hz
    have h' : (s.data.toList == [48]) = false := by simpa using hz
    rw [h', Bool.false_or]
    obtain ⟨t, ht⟩ : ∃ t : ByteArray, Lib.trimPrefix s.data.toList [45] = t.data.toList := ⟨⟨(Lib.trimPrefix s.data.toList [45]).toArray⟩, by simp⟩
    have hl : t.data.toList.length = t.size := (Lib.size_eq t).symm
    rw [ht]
    by_cases h0 : t.size = 0
    · have hn : t.data.toList = [] := List.eq_nil_of_length_eq_zero (by rw [hl]; exact h0)
      rw [hn]
      exact valid_short s h (ht.trans hn) rfl
    · by_cases h4 : 400 < t.size
      · rw [decide_eq_false (show ¬ t.data.toList.length ≤ 400 by omega), Bool.and_false, Bool.false_and, Bool.false_and]
        exact valid_long s h ht (by omega)
      · have hpos : 0 < t.size := by omega
        have hhd : t.data.toList.head? = some t[0] := by
          rw [List.head?_eq_getElem?, List.getElem?_eq_getElem (by omega)]; rfl
        rw [decide_eq_true (show 1 ≤ t.data.toList.length by omega), decide_eq_true (show t.data.toList.length ≤ 400 by omega), hhd]
        by_cases h8 : t[0] = 48
        · have hc : ((t[0].toNat : Int) == 48) = true := by rw [h8]; rfl
          rw [show (some t[0] == some 48) = true by rw [h8]; rfl]
          exact valid_lead s h ht hpos (by omega) hc
        · have hc : ((t[0].toNat : Int) == 48) = false := by
            rw [beq_eq_false_iff_ne]
            intro e
            apply h8
            apply UInt8.toNat.inj
            have : t[0].toNat = 48 := by omega
            rw [this]; rfl
          rw [show (some t[0] == some 48) = false by simpa using h8]
          exact valid_loop s h ht hpos (by omega) hc (by simp)
theorem vld_itoa {z : Int} (h : Lib.nDigits z.natAbs ≤ 400) : vld (Lib.itoa z) = true := by
  unfold vld
  rw [T.itoa_trim]
  by_cases h0 : z.natAbs = 0
  · have : z = 0 := by omega
    subst this
    decide +kernel
  · have h1 : 1 ≤ (Lib.decDigits z.natAbs).length := by rw [Lib.decDigits_length]; exact Lib.nDigits_pos _
    have h2 : (Lib.decDigits z.natAbs).length ≤ 400 := by rw [Lib.decDigits_length]; exact h
    have h3 : (Lib.decDigits z.natAbs).all T.digit = true := by rw [List.all_eq_true]; exact T.decDigits_digit _
    have h4 : ((Lib.decDigits z.natAbs).head? == some 48) = false := by
      cases hd : Lib.decDigits z.natAbs with
      | nil => rfl
      | cons c r => have := T.decDigits_head (by omega) c r hd; simpa using this
    rw [decide_eq_true h1, decide_eq_true h2, h3, h4]
    simp
theorem itoa_of_vld {l : List UInt8} (h : vld l = true) : ∃ z, l = Lib.itoa z ∧ Lib.nDigits z.natAbs ≤ 400 := by
  unfold vld at h
  rw [Bool.or_eq_true] at h
  rcases h with h | h
  · refine ⟨0, ?_, by decide +kernel⟩
    have : l = [48] := by simpa using h
    rw [this]; decide +kernel
  · simp only [Bool.and_eq_true, decide_eq_true_eq, Bool.not_eq_true'] at h
    obtain ⟨⟨⟨h1, h2⟩, h3⟩, h4⟩ := h
    obtain ⟨d, hd⟩ : ∃ d, d = Lib.trimPrefix l [45] := ⟨_, rfl⟩
    rw [← hd] at h1 h2 h3 h4
    have hne : d ≠ [] := by rintro rfl; simp at h1
    have hdig : ∀ c ∈ d, T.digit c = true := List.all_eq_true.1 h4
    have hhead : ∀ c r, d = c :: r → c ≠ 48 := by
      rintro c r rfl e
      subst e
      simp at h3
    have he := T.decDigits_num d hdig hne hhead
    have hnd : Lib.nDigits (T.num d) ≤ 400 := by rw [← Lib.decDigits_length, he]; exact h2
    have hnz : 0 < T.num d := by
      rcases Nat.eq_zero_or_pos (T.num d) with h0 | h0
      · exfalso
        rw [h0] at he
        cases hq : d with
        | nil => exact hne hq
        | cons c r =>
          rw [hq] at he
          have e0 : Lib.decDigits 0 = [48] := by decide +kernel
          rw [e0] at he
          injection he with e1 _
          exact hhead c r hq e1.symm
      · exact h0
    unfold Lib.trimPrefix at hd
    by_cases hp : Lib.hasPrefix l [45] = true
    · rw [if_pos hp] at hd
      refine ⟨-(T.num d : Int), ?_, by rw [show (-(T.num d : Int)).natAbs = T.num d by omega]; exact hnd⟩
      rw [T.itoa_neg (by omega), show (-(T.num d : Int)).natAbs = T.num d by omega, he, hd]
      unfold Lib.hasPrefix at hp
      cases l with
      | nil => simp at hp
      | cons c r =>
        have : (45 : UInt8) = c := by simpa [List.isPrefixOf] using hp
        rw [← this]; rfl
    · rw [if_neg hp] at hd
      refine ⟨(T.num d : Int), ?_, by rw [show ((T.num d : Int)).natAbs = T.num d by omega]; exact hnd⟩
      rw [T.itoa_nonneg (by omega), show ((T.num d : Int)).natAbs = T.num d by omega, he, hd]
end Go.Proofs.YthnbocojjllfaaaGreatDoor
