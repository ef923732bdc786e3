/- The law RationalFloors. -/
import Derived.Test.YtfogkkanifnppaaGreatDoorLawQParts
namespace Go.Proofs.YtfogkkanifnppaaGreatDoor
open Go Go.RowKit

theorem QRun.radd {w w1 : World} {g : Nat} (h : QRun w g w1) {s t : ByteArray} {p q : Int} {k : Nat} (hs : Num s p k) (ht : Num t q k) (h1 : 1 ≤ k) (hk : k < 400) :
    Calls Tryz.prog 21 #[.string s, .string t] w1 fun e w' => ∃ u, e = .returned (.tuple #[.string u, .int .i64 0]) ∧ Hid (Num u (p + q) (k + 1) ∧ QRun w g w') := by
  have hb : (p + q).natAbs < 10 ^ (k + 1) := by have h1 := hs.2; have h2 := ht.2; rw [Nat.pow_succ]; omega
  refine (radd_ok s t hs.1 ht.1 (hs.nd h1 (by omega)) (ht.nd h1 (by omega))).mono ?_
  rintro e w' ⟨he, hb'⟩
  exact ⟨⟨(Lib.itoa (p + q)).toArray⟩, he.trans (congrArg Ending.returned (if_pos (Nat.le_trans (nDigits_le (by omega) hb) hk))), Lib.hid ⟨⟨by simp, hb⟩, h.op hb'⟩⟩
theorem txt_zero_is : (⟨#[48]⟩ : ByteArray).data.toList = Lib.itoa 0 := by decide +kernel
theorem qn_zero {k : Nat} (h1 : 1 ≤ k) (hk : k ≤ 400) : QN ⟨#[48]⟩ 0 k := qn_whole (z := 0) txt_zero_is (Nat.pow_pos (by decide)) h1 hk
theorem num_text {t : ByteArray} {z : Int} {k : Nat} (h : Num t z k) (v : Int) (l : List UInt8) (hl : Lib.itoa v = l) : (t.toList == l) = decide (z = v) := by
  rw [Lib.toList_data, h.1]
  by_cases hz : z = v
  · rw [decide_eq_true hz, beq_iff_eq, hz, hl]
  · rw [decide_eq_false hz, beq_eq_false_iff_ne]; exact fun e => hz (itoa_inj (e.trans hl.symm))
set_option maxHeartbeats 1600000 in
set_option maxRecDepth 100000 in
theorem law_qfloors {w : World} {A : Option Addr} {n c : Nat} (ht : Tab w) (hm : Lx w) (h : Nums w A n) (hc : n ≤ c) (hcm : c ≤ maxLen) (m : Int) (hm1 : -32768 ≤ m) (hm2 : m ≤ 32767) :
    Calls Tryz.prog 4 #[.slice A n c, .int .i16 m] w fun e w' => e = .returned (.bool true) ∧ Below w.heap.size w w' := by
  have H := Lib.hid (And.intro ht (And.intro hm h))
  have hmm : m.natAbs < 10 ^ 8 := by omega
  have HMM := Lib.hid hmm
  clear ht hm h hmm
  go_enter Tryz.func4, Tryz.ntmps4
  go_wp2_with fail
  refine (QRun.new H.out.1 H.out.2.1 H.out.2.2 hc hcm).mono ?_
  rintro e w0 ⟨g, rfl, H0⟩
  go_wp2_with fail
  refine (H0.out.long 8 (by omega) (by omega)).mono ?_
  rintro e w1 ⟨ta, a, rfl, HA⟩
  go_wp2_with fail
  refine (HA.out.2.floor HA.out.1).mono ?_
  rintro e w2 ⟨tf, rfl, HF⟩
  go_wp2_with fail
  refine (qwhole_any m (by omega) (by omega) HF.out.2.2.env.1).mono ?_
  rintro e w3 ⟨he, hb3⟩
  obtain ⟨tw, htw⟩ : ∃ tw : ByteArray, tw = ⟨(Lib.itoa m).toArray⟩ := ⟨_, rfl⟩
  rw [← htw] at he
  subst he
  have hq : QN tw (m : Rat) 8 := qn_whole (by rw [htw]) HMM.out (by omega) (by omega)
  have H3 := Lib.hid (And.intro (HF.out.2.2.op hb3) (And.intro hq htw))
  clear hb3 hq htw
  go_wp2_with fail
  refine (H3.out.1.add HA.out.1 H3.out.2.1 (by omega)).mono ?_
  rintro e w4 ⟨tb, rfl, HB⟩
  go_wp2_with fail
  refine (HB.out.2.floor HB.out.1).mono ?_
  rintro e w5 ⟨th, rfl, HH⟩
  go_wp2_with fail
  refine (rmake_any m (by omega) (by omega)).mono ?_
  rw [← H3.out.2.2]
  rintro e w6 ⟨rfl, hb6⟩
  have hnw : Num tw m 8 := ⟨by rw [H3.out.2.2], HMM.out⟩
  have H6 := Lib.hid (And.intro (HH.out.2.2.op hb6) hnw)
  clear hb6 hnw
  have hnf : Num tf (a.num / (a.den : Int)) 8 := ⟨HF.out.1, HF.out.2.1⟩
  have HNF := Lib.hid hnf
  clear hnf
  go_wp2_with fail
  refine (H6.out.1.radd HNF.out H6.out.2 (by omega) (by omega)).mono ?_
  rintro e w7 ⟨twant, rfl, HW⟩
  obtain rfl : th = twant := by
    have e2 : th.data.toList = twant.data.toList := by rw [HH.out.1, HW.out.1.1, floor_plus]
    apply ByteArray.ext
    exact Array.toList_inj.1 e2
  go_wp2_with fail
  refine (HW.out.2.sub (qn_zero (k := 8) (by omega) (by omega)) HA.out.1 (by omega)).mono ?_
  rintro e w8 ⟨tg, rfl, HG⟩
  go_wp2_with fail
  refine (HG.out.2.floor HG.out.1).mono ?_
  rintro e w9 ⟨tl, rfl, HL⟩
  go_wp2_with fail
  refine (HL.out.2.2.parts HA.out.1).mono ?_
  rintro e w10 ⟨tn, td, rfl, HP⟩
  have hz : (0 : Rat) - a = -a := by grind
  have hnl : Num tl ((-a).num / ((-a).den : Int)) 17 := by rw [← hz]; exact ⟨HL.out.1, HL.out.2.1⟩
  have HNL := Lib.hid hnl
  clear hz hnl
  go_wp2_with fail
  refine (HP.out.2.2.radd (HNF.out.mono (m := 17) (by omega)) HNL.out (by omega) (by omega)).mono ?_
  rintro e w11 ⟨tsum, rfl, HS⟩
  have hsum := HS.out.1
  rw [floor_neg] at hsum
  have hd1 := num_text HP.out.2.1 1 [49] (by decide +kernel)
  have hs0 := num_text hsum 0 [48] (by decide +kernel)
  have hs1 := num_text hsum (-1) [45, 49] (by decide +kernel)
  clear hsum
  by_cases h1 : a.den = 1
  · rw [decide_eq_true (by omega)] at hd1
    rw [if_pos h1, decide_eq_true rfl] at hs0
    clear h1 hs1
    go_wp2_with fail
    refine HS.out.2.sane.mono ?_
    rintro e w12 ⟨rfl, hb⟩
    go_wp2
    go_ret
    exact ⟨rfl, hb⟩
  · rw [decide_eq_false (by omega)] at hd1
    rw [if_neg h1, decide_eq_true rfl] at hs1
    clear h1 hs0
    go_wp2_with fail
    refine HS.out.2.sane.mono ?_
    rintro e w12 ⟨rfl, hb⟩
    go_wp2
    go_ret
    exact ⟨rfl, hb⟩
end Go.Proofs.YtfogkkanifnppaaGreatDoor
