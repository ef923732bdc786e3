/- The law RationalTurns. -/
import Derived.Test.YtfogkkanifnppaaGreatDoorLawQOrder
namespace Go.Proofs.YtfogkkanifnppaaGreatDoor
open Go Go.RowKit

theorem txt_two_is : (⟨#[50]⟩ : ByteArray).data.toList = Lib.itoa 2 := by decide +kernel
theorem qn_two {k : Nat} (h1 : 1 ≤ k) (hk : k ≤ 400) : QN ⟨#[50]⟩ 2 k := qn_whole (z := 2) txt_two_is (Nat.lt_of_lt_of_le (show (2 : Int).natAbs < 10 ^ 1 by decide) (Nat.pow_le_pow_right (by decide) h1)) h1 hk
theorem one_over {a : Rat} (h : a ≠ 0) : 1 / a ≠ 0 := by
  intro e
  have : a * (1 / a) = 1 := by grind
  rw [e, Rat.mul_zero] at this
  exact absurd this (by decide +kernel)
theorem between {a b : Rat} {c1 : Int} (hc : c1 = sgn (a - b).num) :
    (c1 ≤ 0 → cmpI (a.num * ((a + b) / 2).den) (((a + b) / 2).num * a.den) ≤ 0 ∧ cmpI (((a + b) / 2).num * b.den) (b.num * ((a + b) / 2).den) ≤ 0) ∧
    (0 < c1 → cmpI (b.num * ((a + b) / 2).den) (((a + b) / 2).num * b.den) ≤ 0 ∧ cmpI (((a + b) / 2).num * a.den) (a.num * ((a + b) / 2).den) ≤ 0) := by
  rw [cmp_is_sgn, cmp_is_sgn, cmp_is_sgn, cmp_is_sgn, mean_lo, mean_hi, mean_lo', mean_hi', sgn_times, sgn_times, half_pos, sgn_swap a b, ← hc]
  exact ⟨fun h => ⟨by omega, by omega⟩, fun h => ⟨by omega, by omega⟩⟩
set_option maxHeartbeats 1600000 in
set_option maxRecDepth 100000 in
theorem law_qturns {w : World} {A : Option Addr} {n c : Nat} (ht : Tab w) (hm : Lx w) (h : Nums w A n) (hc : n ≤ c) (hcm : c ≤ maxLen) :
    Calls Tryz.prog 3 #[.slice A n c] w fun e w' => e = .returned (.bool true) ∧ Below w.heap.size w w' := by
  have H := Lib.hid (And.intro ht (And.intro hm h))
  clear ht hm h
  go_enter Tryz.func3, Tryz.ntmps3
  go_wp2_with fail
  refine (QRun.new H.out.1 H.out.2.1 H.out.2.2 hc hcm).mono ?_
  rintro e w0 ⟨g, rfl, H0⟩
  go_wp2_with fail
  refine (H0.out.long 8 (by omega) (by omega)).mono ?_
  rintro e w1 ⟨ta, a, rfl, HA⟩
  go_wp2_with fail
  refine (HA.out.2.long 8 (by omega) (by omega)).mono ?_
  rintro e w2 ⟨tb, b, rfl, HB⟩
  go_wp2_with fail
  refine (HB.out.2.mul HA.out.1 HB.out.1 (by omega) (by omega)).mono ?_
  rintro e w3 ⟨tp, rfl, HP⟩
  go_wp2_with fail
  refine (HP.out.2.add HA.out.1 HB.out.1 (by omega)).mono ?_
  rintro e w4 ⟨ts, rfl, HS⟩
  go_wp2_with fail
  refine (HS.out.2.div HS.out.1 (qn_two (k := 17) (by omega) (by omega)) (by decide +kernel) (by omega) (by omega)).mono ?_
  rintro e w5 ⟨tm, rfl, HM⟩
  obtain ⟨sa, hsa⟩ : ∃ sa, sa = sgn a.num := ⟨_, rfl⟩
  obtain ⟨sb, hsb⟩ : ∃ sb, sb = sgn b.num := ⟨_, rfl⟩
  obtain ⟨sp, hsp⟩ : ∃ sp, sp = sgn (a * b).num := ⟨_, rfl⟩
  have hb1 := sgn_bounds a.num
  have hb2 := sgn_bounds b.num
  rw [← hsa] at hb1
  rw [← hsb] at hb2
  have hprod : sp = sa * sb := by rw [hsp, hsa, hsb]; exact sgn_times a b
  have hw : IntKind.i64.wrap (sa * sb) = sp := by
    rw [hprod]
    refine IntWalk.i64_in _ ?_
    rcases (by omega : sa = -1 ∨ sa = 0 ∨ sa = 1) with e | e | e <;> rw [e] <;> omega
  have HSG := Lib.hid (And.intro hsa (And.intro hsb hsp))
  clear hsa hsb hsp hprod hb1 hb2
  go_wp2_with fail
  refine (HM.out.2.sign HP.out.1 HSG.out.2.2).mono ?_
  rintro e w6 ⟨rfl, H6⟩
  go_wp2_with fail
  refine (H6.out.sign HA.out.1 HSG.out.1).mono ?_
  rintro e w7 ⟨rfl, H7⟩
  go_wp2_with fail
  refine (H7.out.sign HB.out.1 HSG.out.2.1).mono ?_
  rintro e w8 ⟨rfl, H8⟩
  obtain ⟨c1, hc1⟩ : ∃ c1, c1 = sgn (a - b).num := ⟨_, rfl⟩
  have hbt := between hc1
  have HC := Lib.hid (And.intro hc1 hbt)
  clear hc1 hbt
  go_wp2_with fail
  refine (H8.out.cmp HA.out.1 HB.out.1 (HC.out.1.trans (cmp_is_sgn a b).symm)).mono ?_
  rintro e w9 ⟨rfl, H9⟩
  clear hw
  rcases Classical.em (0 < c1) with hlt | hle
  focus
    obtain ⟨c2, hc2⟩ : ∃ c2, c2 = cmpI (b.num * ((a + b) / 2).den) (((a + b) / 2).num * b.den) := ⟨_, rfl⟩
    obtain ⟨c3, hc3⟩ : ∃ c3, c3 = cmpI (((a + b) / 2).num * a.den) (a.num * ((a + b) / 2).den) := ⟨_, rfl⟩
    have hb2 : c2 ≤ 0 := by rw [hc2]; exact (HC.out.2.2 hlt).1
    have hb3 : c3 ≤ 0 := by rw [hc3]; exact (HC.out.2.2 hlt).2
    have HCC := Lib.hid (And.intro hc2 hc3)
    clear hc2 hc3
    go_wp2_with fail
    refine (H9.out.cmp (HB.out.1.mono (m := 34) (by omega)) HM.out.1 HCC.out.1).mono ?_
    rintro e w10 ⟨rfl, H10⟩
    go_wp2_with fail
    refine (H10.out.cmp HM.out.1 (HA.out.1.mono (m := 34) (by omega)) HCC.out.2).mono ?_
    rintro e w11 ⟨rfl, H11⟩
    have hz := HA.out.1.zero
    by_cases h0 : a = 0
    · rw [decide_eq_true h0] at hz
      clear h0
      go_wp2_with fail
      refine H11.out.sane.mono ?_
      rintro e w12 ⟨rfl, hb⟩
      go_wp2
      go_ret
      exact ⟨rfl, hb⟩
    · rw [decide_eq_false h0] at hz
      have HZ := Lib.hid h0
      clear h0
      go_wp2_with fail
      refine (H11.out.div (qn_one (k := 8) (by omega) (by omega)) HA.out.1 HZ.out (by omega) (by omega)).mono ?_
      rintro e w12 ⟨tr, rfl, HR⟩
      go_wp2_with fail
      refine (HR.out.2.div (qn_one (k := 16) (by omega) (by omega)) HR.out.1 (one_over HZ.out) (by omega) (by omega)).mono ?_
      rintro e w13 ⟨tu, rfl, HU⟩
      obtain rfl : tu = ta := HU.out.1.eq HA.out.1 (inv_inv' a)
      go_wp2_with fail
      refine HU.out.2.sane.mono ?_
      rintro e w14 ⟨rfl, hb⟩
      go_wp2
      go_ret
      exact ⟨rfl, hb⟩
  focus
    have hle := Int.not_lt.1 hle
    obtain ⟨c2, hc2⟩ : ∃ c2, c2 = cmpI (a.num * ((a + b) / 2).den) (((a + b) / 2).num * a.den) := ⟨_, rfl⟩
    obtain ⟨c3, hc3⟩ : ∃ c3, c3 = cmpI (((a + b) / 2).num * b.den) (b.num * ((a + b) / 2).den) := ⟨_, rfl⟩
    have hb2 : c2 ≤ 0 := by rw [hc2]; exact (HC.out.2.1 hle).1
    have hb3 : c3 ≤ 0 := by rw [hc3]; exact (HC.out.2.1 hle).2
    have HCC := Lib.hid (And.intro hc2 hc3)
    clear hc2 hc3
    go_wp2_with fail
    refine (H9.out.cmp (HA.out.1.mono (m := 34) (by omega)) HM.out.1 HCC.out.1).mono ?_
    rintro e w10 ⟨rfl, H10⟩
    go_wp2_with fail
    refine (H10.out.cmp HM.out.1 (HB.out.1.mono (m := 34) (by omega)) HCC.out.2).mono ?_
    rintro e w11 ⟨rfl, H11⟩
    have hz := HA.out.1.zero
    by_cases h0 : a = 0
    · rw [decide_eq_true h0] at hz
      clear h0
      go_wp2_with fail
      refine H11.out.sane.mono ?_
      rintro e w12 ⟨rfl, hb⟩
      go_wp2
      go_ret
      exact ⟨rfl, hb⟩
    · rw [decide_eq_false h0] at hz
      have HZ := Lib.hid h0
      clear h0
      go_wp2_with fail
      refine (H11.out.div (qn_one (k := 8) (by omega) (by omega)) HA.out.1 HZ.out (by omega) (by omega)).mono ?_
      rintro e w12 ⟨tr, rfl, HR⟩
      go_wp2_with fail
      refine (HR.out.2.div (qn_one (k := 16) (by omega) (by omega)) HR.out.1 (one_over HZ.out) (by omega) (by omega)).mono ?_
      rintro e w13 ⟨tu, rfl, HU⟩
      obtain rfl : tu = ta := HU.out.1.eq HA.out.1 (inv_inv' a)
      go_wp2_with fail
      refine HU.out.2.sane.mono ?_
      rintro e w14 ⟨rfl, hb⟩
      go_wp2
      go_ret
      exact ⟨rfl, hb⟩
end Go.Proofs.YtfogkkanifnppaaGreatDoor
