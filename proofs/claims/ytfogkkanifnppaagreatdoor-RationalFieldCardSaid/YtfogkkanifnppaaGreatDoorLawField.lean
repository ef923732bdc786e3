/- The law RationalField. -/
import Derived.Test.YtfogkkanifnppaaGreatDoorQLong
namespace Go.Proofs.YtfogkkanifnppaaGreatDoor
open Go Go.RowKit

set_option maxHeartbeats 1600000 in
set_option maxRecDepth 100000 in
theorem law_field {w : World} {A : Option Addr} {n c : Nat} (ht : Tab w) (hm : Lx w) (h : Nums w A n) (hc : n ≤ c) (hcm : c ≤ maxLen) :
    Calls Tryz.prog 7 #[.slice A n c] w fun e w' => e = .returned (.bool true) ∧ Below w.heap.size w w' := by
  have H := Lib.hid (And.intro ht (And.intro hm h))
  clear ht hm h
  go_enter Tryz.func7, Tryz.ntmps7
  go_wp2_with fail
  refine (QRun.new H.out.1 H.out.2.1 H.out.2.2 hc hcm).mono ?_
  rintro e w0 ⟨g, rfl, H0⟩
  go_wp2_with fail
  refine (H0.out.long 10 (by omega) (by omega)).mono ?_
  rintro e w1 ⟨ta, a, rfl, HA⟩
  go_wp2_with fail
  refine (HA.out.2.long 10 (by omega) (by omega)).mono ?_
  rintro e w2 ⟨tb, b, rfl, HB⟩
  go_wp2_with fail
  refine (HB.out.2.long 10 (by omega) (by omega)).mono ?_
  rintro e w3 ⟨tc, c', rfl, HC⟩
  go_wp2_with fail
  refine (HC.out.2.add HA.out.1 HB.out.1 (by omega)).mono ?_
  rintro e w4 ⟨tab, rfl, HAB⟩
  go_wp2_with fail
  refine (HAB.out.2.mul HAB.out.1 (HC.out.1.mono (m := 21) (by omega)) (by omega) (by omega)).mono ?_
  rintro e w5 ⟨tp, rfl, HP⟩
  go_wp2_with fail
  refine (HP.out.2.mul HA.out.1 HC.out.1 (by omega) (by omega)).mono ?_
  rintro e w6 ⟨tq, rfl, HQ⟩
  go_wp2_with fail
  refine (HQ.out.2.mul HB.out.1 HC.out.1 (by omega) (by omega)).mono ?_
  rintro e w7 ⟨tr, rfl, HR⟩
  go_wp2_with fail
  refine (HR.out.2.add HQ.out.1 HR.out.1 (by omega)).mono ?_
  rintro e w8 ⟨tu, rfl, HU⟩
  go_wp2_with fail
  refine (HU.out.2.sub HAB.out.1 (HB.out.1.mono (m := 21) (by omega)) (by omega)).mono ?_
  rintro e w9 ⟨tv, rfl, HV⟩
  obtain rfl : tu = tp := HU.out.1.eq HP.out.1 (Rat.add_mul a b c').symm
  obtain rfl : tv = ta := HV.out.1.eq HA.out.1 (by rw [Rat.sub_eq_add_neg, Rat.add_assoc, Rat.add_neg_cancel, Rat.add_zero])
  go_wp2_with fail
  refine (HV.out.2.valid HP.out.1).mono ?_
  rintro e w10 ⟨rfl, HW⟩
  have hb0 := HB.out.1.zero
  by_cases h0 : b = 0
  · rw [decide_eq_true h0] at hb0
    have HZ := Lib.hid h0
    clear h0
    go_wp2_with fail
    refine (HW.out.div0 HA.out.1 HB.out.1 HZ.out).mono ?_
    rintro e w11 ⟨rfl, HD⟩
    go_wp2_with fail
    refine HD.out.sane.mono ?_
    rintro e w12 ⟨rfl, hb⟩
    go_wp2
    go_ret
    exact ⟨rfl, hb⟩
  · rw [decide_eq_false h0] at hb0
    have HZ := Lib.hid h0
    clear h0
    go_wp2_with fail
    refine (HW.out.div HA.out.1 HB.out.1 HZ.out (by omega) (by omega)).mono ?_
    rintro e w11 ⟨tw, rfl, HD⟩
    go_wp2_with fail
    refine (HD.out.2.mul HD.out.1 (HB.out.1.mono (m := 20) (by omega)) (by omega) (by omega)).mono ?_
    rintro e w12 ⟨tx, rfl, HX⟩
    obtain rfl : tx = tv := HX.out.1.eq HA.out.1 (Rat.div_mul_cancel HZ.out)
    go_wp2_with fail
    refine HX.out.2.sane.mono ?_
    rintro e w13 ⟨rfl, hb⟩
    go_wp2
    go_ret
    exact ⟨rfl, hb⟩
end Go.Proofs.YtfogkkanifnppaaGreatDoor
