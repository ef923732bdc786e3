/- The law RationalOrder. -/
import Derived.Test.YtfogkkanifnppaaGreatDoorQPure
namespace Go.Proofs.YtfogkkanifnppaaGreatDoor
open Go Go.RowKit

theorem txt_one_is : (⟨#[49]⟩ : ByteArray).data.toList = Lib.itoa 1 := by decide +kernel
theorem qn_one {k : Nat} (h1 : 1 ≤ k) (hk : k ≤ 400) : QN ⟨#[49]⟩ 1 k := qn_whole (z := 1) txt_one_is (Nat.one_lt_pow (by omega) (by decide)) h1 hk
set_option maxHeartbeats 1600000 in
set_option maxRecDepth 100000 in
theorem law_qorder {w : World} {A : Option Addr} {n c : Nat} (ht : Tab w) (hm : Lx w) (h : Nums w A n) (hc : n ≤ c) (hcm : c ≤ maxLen) :
    Calls Tryz.prog 8 #[.slice A n c] w fun e w' => e = .returned (.bool true) ∧ Below w.heap.size w w' := by
  have H := Lib.hid (And.intro ht (And.intro hm h))
  clear ht hm h
  go_enter Tryz.func8, Tryz.ntmps8
  go_wp2_with fail
  refine (QRun.new H.out.1 H.out.2.1 H.out.2.2 hc hcm).mono ?_
  rintro e w0 ⟨g, rfl, H0⟩
  go_wp2_with fail
  refine (H0.out.long 9 (by omega) (by omega)).mono ?_
  rintro e w1 ⟨ta, a, rfl, HA⟩
  go_wp2_with fail
  refine (HA.out.2.long 9 (by omega) (by omega)).mono ?_
  rintro e w2 ⟨tb, b, rfl, HB⟩
  go_wp2_with fail
  refine (HB.out.2.sub HA.out.1 HB.out.1 (by omega)).mono ?_
  rintro e w3 ⟨td, rfl, HD⟩
  go_wp2_with fail
  refine (HD.out.2.floor HA.out.1).mono ?_
  rintro e w4 ⟨tf, rfl, HF⟩
  have hqf := qn_whole HF.out.1 HF.out.2.1 (by omega) (by omega)
  have HQ := Lib.hid hqf
  clear hqf
  go_wp2_with fail
  refine (HF.out.2.2.add HQ.out (qn_one (k := 9) (by omega) (by omega)) (by omega)).mono ?_
  rintro e w5 ⟨tn, rfl, HN⟩
  obtain ⟨c1, hc1⟩ : ∃ c1, c1 = sgn (a - b).num := ⟨_, rfl⟩
  obtain ⟨c2, hc2⟩ : ∃ c2, c2 = cmpI ((((a.num / (a.den : Int) : Int) : Rat)).num * a.den) (a.num * ((((a.num / (a.den : Int) : Int) : Rat)).den : Int)) := ⟨_, rfl⟩
  obtain ⟨c3, hc3⟩ : ∃ c3, c3 = cmpI (a.num * ((((a.num / (a.den : Int) : Int) : Rat) + 1).den : Int)) ((((a.num / (a.den : Int) : Int) : Rat) + 1).num * a.den) := ⟨_, rfl⟩
  have hb2 : c2 ≤ 0 := by rw [hc2]; exact floor_le a
  have hb3 : c3 < 0 := by rw [hc3]; exact lt_floor a
  have HC := Lib.hid (And.intro hc1 (And.intro hc2 hc3))
  clear hc1 hc2 hc3
  go_wp2_with fail
  refine (HN.out.2.cmp HA.out.1 HB.out.1 (HC.out.1.trans (cmp_is_sgn a b).symm)).mono ?_
  rintro e w6 ⟨rfl, H6⟩
  go_wp2_with fail
  refine (H6.out.sign HD.out.1 HC.out.1).mono ?_
  rintro e w7 ⟨rfl, H7⟩
  go_wp2_with fail
  refine (H7.out.cmp HQ.out HA.out.1 HC.out.2.1).mono ?_
  rintro e w8 ⟨rfl, H8⟩
  go_wp2_with fail
  refine (H8.out.cmp (HA.out.1.mono (m := 19) (by omega)) HN.out.1 HC.out.2.2).mono ?_
  rintro e w9 ⟨rfl, H9⟩
  go_wp2_with fail
  refine H9.out.sane.mono ?_
  rintro e w10 ⟨rfl, hb⟩
  go_wp2
  go_ret
  exact ⟨rfl, hb⟩
end Go.Proofs.YtfogkkanifnppaaGreatDoor
