/- The law IntegerText. -/
import Derived.Test.YthibdbpgllhcpaaGreatDoorNum
namespace Go.Proofs.YthibdbpgllhcpaaGreatDoor
open Go Go.RowKit

theorem ten_digits {u : Nat} (h : 0 < u) : Lib.decDigits (u * 10) = Lib.decDigits u ++ [48] := by
  rw [Lib.decDigits, dif_neg (by omega), show u * 10 / 10 = u by omega, show u * 10 % 10 = 0 by omega]
  rfl
theorem ten_itoa {z : Int} (h : z ≠ 0) : Lib.itoa (z * 10) = Lib.itoa z ++ [48] := by
  have e : (z * 10).natAbs = z.natAbs * 10 := by rw [Int.natAbs_mul]; rfl
  by_cases hn : z < 0
  · rw [T.itoa_neg hn, T.itoa_neg (by omega), e, ten_digits (by omega)]; rfl
  · rw [T.itoa_nonneg hn, T.itoa_nonneg (by omega), e, ten_digits (by omega)]
theorem num_ten : Num ⟨#[49, 48]⟩ 10 2 := ⟨by decide +kernel, by decide⟩
theorem num_zero : Num ⟨#[48]⟩ 0 1 := ⟨by decide +kernel, by decide⟩
theorem num_zero_iff {s : ByteArray} {z : Int} {k : Nat} (h : Num s z k) (h0 : z = 0) : s = ⟨#[48]⟩ := h.eq num_zero h0
theorem num_ne {s : ByteArray} {z : Int} {k : Nat} (h : Num s z k) (h0 : z ≠ 0) : (s.toList == [48]) = false := by
  rw [beq_eq_false_iff_ne]
  intro e
  rw [Lib.toList_data, h.1] at e
  exact h0 (itoa_zero e)

theorem valid_b {w : World} (s : ByteArray) {b : Bool} (h : vld s.data.toList = b) : Calls Tryz.prog 16 #[.string s] w fun e w' => e = .returned (.bool b) ∧ w = w' := by
  subst h
  exact valid_any s
theorem app_zero (s : ByteArray) : (s ++ ⟨#[48]⟩).data.toList = s.data.toList ++ [48] := by simp
theorem app_minus (s : ByteArray) : ((⟨#[45]⟩ : ByteArray) ++ s).data.toList = 45 :: s.data.toList := by simp
theorem cut_one (s : ByteArray) : (s.extract 1 s.size).data.toList = s.data.toList.drop 1 := by
  have h : s.data.toList.tail.length ≤ s.size - 1 := by rw [List.length_tail, ← Lib.size_eq]; exact Nat.le_refl _
  simp [ByteArray.data_extract, Array.toList_extract, List.extract, List.take_of_length_le h]
/-- What the law asks of a text, by its sign. -/
theorem text_facts {s : ByteArray} {z : Int} (h : Num s z 30) (h0 : z ≠ 0) : ∃ hp : 0 < s.size, s.size ≤ 100 ∧
    ((z < 0 ∧ s[0] = 45 ∧ (s.extract 1 s.size).data.toList = Lib.itoa (0 - z)) ∨ (¬ z < 0 ∧ s[0] ≠ 45 ∧ ((⟨#[45]⟩ : ByteArray) ++ s).data.toList = Lib.itoa (0 - z))) := by
  have hl := Lib.size_eq s
  have hd : (Lib.decDigits z.natAbs).length ≤ 30 := by rw [Lib.decDigits_length]; exact nDigits_le (by decide) h.2
  have hd1 : 1 ≤ (Lib.decDigits z.natAbs).length := by rw [Lib.decDigits_length]; exact Lib.nDigits_pos _
  have hget : ∀ hp : 0 < s.size, s.data.toList[0]? = some s[0] := fun hp => by
    rw [List.getElem?_eq_getElem (by omega)]; rfl
  have hab : (0 - z).natAbs = z.natAbs := by omega
  by_cases hn : z < 0
  · have e := h.1
    rw [T.itoa_neg hn] at e
    have hp : 0 < s.size := by rw [hl, e]; simp
    refine ⟨hp, by rw [hl, e, List.length_cons]; omega, .inl ⟨hn, ?_, ?_⟩⟩
    · have := hget hp
      rw [e] at this
      exact (Option.some.inj this).symm
    · rw [cut_one, e, T.itoa_nonneg (by omega), hab]; rfl
  · have e := h.1
    rw [T.itoa_nonneg hn] at e
    have hp : 0 < s.size := by rw [hl, e]; omega
    refine ⟨hp, by rw [hl, e]; omega, .inr ⟨hn, ?_, ?_⟩⟩
    · intro h45
      have h1 := hget hp
      rw [e, h45] at h1
      have h2 := T.digit_iff.1 (T.decDigits_digit _ _ (List.mem_of_getElem? h1))
      exact absurd h2 (by decide)
    · rw [app_minus, e, T.itoa_neg (by omega), hab]

set_option maxHeartbeats 1600000 in
set_option maxRecDepth 100000 in
theorem law_text {w : World} {A : Option Addr} {n c : Nat} (ht : Tab w) (h : Nums w A n) (hc : n ≤ c) (hcm : c ≤ maxLen) :
    Calls Tryz.prog 4 #[.slice A n c] w fun e w' => e = .returned (.bool true) ∧ Below w.heap.size w w' := by
  have H := Lib.hid (And.intro ht h)
  clear ht h
  go_enter Tryz.func4, Tryz.ntmps4
  go_wp2_with fail
  refine (Run.new H.out.1 H.out.2 hc hcm).mono ?_
  rintro e w0 ⟨g, rfl, H0⟩
  go_wp2_with fail
  refine (H0.out.draw 30 (by omega) (by omega)).mono ?_
  rintro e w1 ⟨sa, a, rfl, HA⟩
  by_cases h0 : a = 0
  · obtain rfl := num_zero_iff HA.out.1 h0
    go_wp2_with fail
    refine (valid_b ⟨#[48]⟩ (b := true) (by decide +kernel)).mono ?_
    rintro e w2 ⟨rfl, rfl⟩
    go_wp2_with fail
    refine (valid_b _ (b := false) (by decide +kernel)).mono ?_
    rintro e w2 ⟨rfl, rfl⟩
    go_wp2_with fail
    refine (valid_b _ (b := false) (by decide +kernel)).mono ?_
    rintro e w2 ⟨rfl, rfl⟩
    go_wp2_with fail
    refine (HA.out.2.sane H.out.1).mono ?_
    rintro e w3 ⟨rfl, hb⟩
    go_wp2
    go_ret
    exact ⟨rfl, hb⟩
  · have hne := num_ne HA.out.1 h0
    obtain ⟨hp, hs, hcase⟩ := text_facts HA.out.1 h0
    have HT := Lib.hid hcase
    clear hcase
    go_wp2_with fail
    refine (HA.out.2.mul HA.out.1 num_ten (by omega) (by omega) (by omega)).mono ?_
    rintro e w2 ⟨sx, rfl, HX⟩
    go_wp2_with fail
    refine (HX.out.2.sub (num_zero.mono (by omega)) HA.out.1 (by omega) (by omega)).mono ?_
    rintro e w3 ⟨sm, rfl, HM⟩
    obtain rfl : sx = sa ++ ⟨#[48]⟩ := by
      apply ByteArray.ext
      apply Array.ext'
      rw [HX.out.1.1, app_zero, HA.out.1.1, ten_itoa h0]
    have hv : vld sm.data.toList = true := by rw [HM.out.1.1]; exact vld_itoa (HM.out.1.nd (by omega) (by omega))
    have HV := Lib.hid hv
    clear hv
    rcases HT.out with ⟨hn, h45, hm⟩ | ⟨hn, h45, hm⟩
    · obtain rfl : sm = sa.extract 1 sa.size := by
        apply ByteArray.ext
        apply Array.ext'
        rw [HM.out.1.1, hm]
      have h45' : ((sa[0].toNat : Int) == 45) = true := by rw [h45]; rfl
      clear hm h45
      go_wp2_with fail
      refine (valid_b _ HV.out).mono ?_
      rintro e w4 ⟨rfl, rfl⟩
      go_wp2_with fail
      refine (HM.out.2.sane H.out.1).mono ?_
      rintro e w5 ⟨rfl, hb⟩
      go_wp2
      go_ret
      exact ⟨rfl, hb⟩
    · obtain rfl : sm = ⟨#[45]⟩ ++ sa := by
        apply ByteArray.ext
        apply Array.ext'
        rw [HM.out.1.1, hm]
      have h45' : ((sa[0].toNat : Int) == 45) = false := by
        rw [beq_eq_false_iff_ne]
        intro e
        exact h45 (UInt8.toNat.inj (by show sa[0].toNat = 45; omega))
      clear hm h45
      go_wp2_with fail
      refine (valid_b _ HV.out).mono ?_
      rintro e w4 ⟨rfl, rfl⟩
      go_wp2_with fail
      refine (HM.out.2.sane H.out.1).mono ?_
      rintro e w5 ⟨rfl, hb⟩
      go_wp2
      go_ret
      exact ⟨rfl, hb⟩
end Go.Proofs.YthibdbpgllhcpaaGreatDoor
