/- The law RationalParts. -/
import Derived.Test.YtfogkkanifnppaaGreatDoorQPure
namespace Go.Proofs.YtfogkkanifnppaaGreatDoor
open Go Go.RowKit

theorem num_zero {t : ByteArray} {z : Int} {k : Nat} (h : Num t z k) : (t.toList == [48]) = decide (z = 0) := by
  have e0 : Lib.itoa 0 = [48] := by decide +kernel
  rw [Lib.toList_data, h.1]
  by_cases hz : z = 0
  · rw [decide_eq_true hz, beq_iff_eq, hz, e0]
  · rw [decide_eq_false hz, beq_eq_false_iff_ne]; exact fun e => hz (itoa_zero e)
theorem QRun.draw {w w1 : World} {g : Nat} (h : QRun w g w1) (d : Nat) (hd : d ≤ 100) (h1 : 1 ≤ d) :
    Calls Tryz.prog 28 #[.pointer (some ⟨g, 0, none⟩), .int .i64 (d : Int)] w1 fun e w' => ∃ t z, e = .returned (.string t) ∧ Hid (Num t z d ∧ QRun w g w') :=
  (h.1.draw d hd h1).mono fun _ _ ⟨t, z, he, hr⟩ => ⟨t, z, he, Lib.hid ⟨hr.out.1, hr.out.2, h.2⟩⟩
theorem QRun.rmul {w w1 : World} {g : Nat} (h : QRun w g w1) {s t : ByteArray} {p q : Int} {k m : Nat} (hs : Num s p k) (ht : Num t q m) (h1 : 1 ≤ k) (h2 : 1 ≤ m) (hk : k + m ≤ 400) :
    Calls Tryz.prog 52 #[.string s, .string t] w1 fun e w' => ∃ u, e = .returned (.tuple #[.string u, .int .i64 0]) ∧ Hid (Num u (p * q) (k + m) ∧ QRun w g w') := by
  have hb : (p * q).natAbs < 10 ^ (k + m) := by rw [Int.natAbs_mul, Nat.pow_add]; exact Nat.mul_lt_mul'' hs.2 ht.2
  refine (rmul_ok s t hs.1 ht.1 (hs.nd h1 (by omega)) (ht.nd h2 (by omega))).mono ?_
  rintro e w' ⟨he, hb'⟩
  exact ⟨⟨(Lib.itoa (p * q)).toArray⟩, he.trans (congrArg Ending.returned (if_pos (Nat.le_trans (nDigits_le (by omega) hb) hk))), Lib.hid ⟨⟨by simp, hb⟩, h.op hb'⟩⟩
theorem divInt_mul_self {p q k : Int} (hk : k ≠ 0) : Rat.divInt (p * k) (q * k) = Rat.divInt p q := Rat.divInt_mul_right hk
set_option maxHeartbeats 1600000 in
set_option maxRecDepth 100000 in
theorem law_qparts {w : World} {A : Option Addr} {n c : Nat} (ht : Tab w) (hm : Lx w) (h : Nums w A n) (hc : n ≤ c) (hcm : c ≤ maxLen) :
    Calls Tryz.prog 9 #[.slice A n c] w fun e w' => e = .returned (.bool true) ∧ Below w.heap.size w w' := by
  have H := Lib.hid (And.intro ht (And.intro hm h))
  clear ht hm h
  go_enter Tryz.func9, Tryz.ntmps9
  go_wp2_with fail
  refine (QRun.new H.out.1 H.out.2.1 H.out.2.2 hc hcm).mono ?_
  rintro e w0 ⟨g, rfl, H0⟩
  go_wp2_with fail
  refine (H0.out.long 12 (by omega) (by omega)).mono ?_
  rintro e w1 ⟨ta, a, rfl, HA⟩
  go_wp2_with fail
  refine (HA.out.2.draw 6 (by omega) (by omega)).mono ?_
  rintro e w2 ⟨tk, k, rfl, HK⟩
  go_wp2_with fail
  refine (HK.out.2.parts HA.out.1).mono ?_
  rintro e w3 ⟨tn, td, rfl, HP⟩
  have hd1 : sgn (a.den : Int) = 1 := by unfold sgn; have := a.den_pos; rw [if_neg (by omega), if_pos (by omega)]
  have hd0 : (a.den : Int) ≠ 0 := by have := a.den_pos; omega
  have HD := Lib.hid (And.intro hd1 hd0)
  clear hd1 hd0
  go_wp2_with fail
  refine (rsign_num HP.out.2.1 (by omega) (by omega)).mono ?_
  rw [HD.out.1]
  rintro e w4 ⟨rfl, rfl⟩
  go_wp2_with fail
  refine (HP.out.2.2.make HP.out.1 HP.out.2.1 HD.out.2 (by omega) (by omega)).mono ?_
  rintro e w5 ⟨tx, rfl, HX⟩
  obtain rfl : tx = ta := HX.out.1.eq HA.out.1 (Rat.num_divInt_den a)
  have hk0 := num_zero HK.out.1
  by_cases h0 : k = 0
  · rw [decide_eq_true h0] at hk0
    clear h0
    go_wp2_with fail
    refine HX.out.2.sane.mono ?_
    rintro e w6 ⟨rfl, hb⟩
    go_wp2
    go_ret
    exact ⟨rfl, hb⟩
  · rw [decide_eq_false h0] at hk0
    have HZ := Lib.hid h0
    clear h0
    go_wp2_with fail
    refine (HX.out.2.rmul HP.out.1 HK.out.1 (by omega) (by omega) (by omega)).mono ?_
    rintro e w6 ⟨tp, rfl, HPP⟩
    go_wp2_with fail
    refine (HPP.out.2.rmul HP.out.2.1 HK.out.1 (by omega) (by omega) (by omega)).mono ?_
    rintro e w7 ⟨tq, rfl, HQ⟩
    go_wp2_with fail
    refine (HQ.out.2.make HPP.out.1 HQ.out.1 (Int.mul_ne_zero HD.out.2 HZ.out) (by omega) (by omega)).mono ?_
    rintro e w8 ⟨ty, rfl, HY⟩
    obtain rfl : ty = tx := HY.out.1.eq HA.out.1 ((divInt_mul_self HZ.out).trans (Rat.num_divInt_den a))
    have hg : (Nat.gcd a.num.natAbs (a.den : Int).natAbs : Nat) = 1 := by rw [Int.natAbs_natCast]; exact a.reduced
    have HG := Lib.hid hg
    clear hg
    go_wp2_with fail
    refine (rgcd_ok tn td HP.out.1.1 HP.out.2.1.1 (HP.out.1.nd (by omega) (by omega)) (HP.out.2.1.nd (by omega) (by omega))).mono ?_
    rw [HG.out, itoa_one]
    rintro e w9 ⟨rfl, hb9⟩
    have H9 := Lib.hid (HY.out.2.op hb9)
    clear hb9
    go_wp2_with fail
    refine H9.out.sane.mono ?_
    rintro e w10 ⟨rfl, hb⟩
    go_wp2
    go_ret
    exact ⟨rfl, hb⟩
end Go.Proofs.YtfogkkanifnppaaGreatDoor
