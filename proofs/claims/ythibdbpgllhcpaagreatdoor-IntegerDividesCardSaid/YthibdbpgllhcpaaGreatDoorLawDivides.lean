/- The law IntegerDivides. -/
import Derived.Test.YthibdbpgllhcpaaGreatDoorLawOrder
import Derived.Test.YthibdbpgllhcpaaGreatDoorLawText
import Derived.Test.YthibdbpgllhcpaaGreatDoorDApi
import Derived.Test.YthibdbpgllhcpaaGreatDoorRefS
namespace Go.Proofs.YthibdbpgllhcpaaGreatDoor
open Go Go.RowKit

theorem Run.rsub {w w1 : World} {g : Nat} (h : Run w g w1) {s t : ByteArray} {p q : Int} {k : Nat} (hs : Num s p k) (ht : Num t q k) (h1 : 1 ≤ k) (hk : k < 400) :
    Calls Tryz.prog 28 #[.string s, .string t] w1 fun e w' => ∃ u, e = .returned (.tuple #[.string u, .int .i64 0]) ∧ Hid (Num u (p - q) (k + 1) ∧ Run w g w') := by
  refine (rsub_ok s t hs.1 ht.1 (hs.nd h1 (by omega)) (ht.nd h1 (by omega))).mono ?_
  rintro e w' ⟨he, hb⟩
  have hz := (bnd_add hs.2 ht.2).2
  rw [give_small (Nat.le_trans (nDigits_le (by omega) hz) hk)] at he
  exact ⟨_, he, Lib.hid ⟨⟨rfl, hz⟩, h.op hb⟩⟩
theorem Run.rmul {w w1 : World} {g : Nat} (h : Run w g w1) {s t : ByteArray} {p q : Int} {k m : Nat} (hs : Num s p k) (ht : Num t q m) (h1 : 1 ≤ k) (h2 : 1 ≤ m) (hk : k + m ≤ 400) :
    Calls Tryz.prog 29 #[.string s, .string t] w1 fun e w' => ∃ u, e = .returned (.tuple #[.string u, .int .i64 0]) ∧ Hid (Num u (p * q) (k + m) ∧ Run w g w') := by
  refine (rmul_ok s t hs.1 ht.1 (hs.nd h1 (by omega)) (ht.nd h2 (by omega))).mono ?_
  rintro e w' ⟨he, hb⟩
  have hz := bnd_mul hs.2 ht.2
  rw [give_small (Nat.le_trans (nDigits_le (by omega) hz) hk)] at he
  exact ⟨_, he, Lib.hid ⟨⟨rfl, hz⟩, h.op hb⟩⟩
theorem Run.div {w w1 : World} {g : Nat} (h : Run w g w1) {s t : ByteArray} {p q : Int} {k m : Nat} (hs : Num s p k) (ht : Num t q m) (h1 : 1 ≤ k) (h2 : 1 ≤ m) (hk : k ≤ 400) (hm : m ≤ 400) (hq : q ≠ 0) :
    Calls Tryz.prog 30 #[.string s, .string t] w1 fun e w' => ∃ u v, e = .returned (.tuple #[.string u, .string v, .int .i64 0]) ∧ Hid (Num u (p / q) k ∧ Num v (p % q) m ∧ Run w g w') := by
  refine (div_ok h.tab s t hs.1 ht.1 (hs.nd h1 hk) (ht.nd h2 hm) hq).mono ?_
  rintro e w' ⟨he, hb⟩
  have hsm := quo_small (p := p) hq
  exact ⟨_, _, he, Lib.hid ⟨⟨rfl, Nat.lt_of_le_of_lt hsm.1 hs.2⟩, ⟨rfl, Nat.lt_of_le_of_lt hsm.2 ht.2⟩, h.op hb⟩⟩
theorem Run.gcd {w w1 : World} {g : Nat} (h : Run w g w1) {s t : ByteArray} {p q : Int} {k m : Nat} (hs : Num s p k) (ht : Num t q m) (h1 : 1 ≤ k) (h2 : 1 ≤ m) (hk : k ≤ 400) (hm : m ≤ 400) (hq : q ≠ 0) :
    Calls Tryz.prog 32 #[.string s, .string t] w1 fun e w' => ∃ u, e = .returned (.tuple #[.string u, .int .i64 0]) ∧ Hid (Num u ((Nat.gcd p.natAbs q.natAbs : Nat) : Int) m ∧ Run w g w') := by
  refine (gcd_ok s t hs.1 ht.1 (hs.nd h1 hk) (ht.nd h2 hm) h.tab).mono ?_
  rintro e w' ⟨he, hb⟩
  have hg := Nat.gcd_le_right p.natAbs (show 0 < q.natAbs by omega)
  exact ⟨_, he, Lib.hid ⟨⟨rfl, Nat.lt_of_le_of_lt (by rw [Int.natAbs_natCast]; exact hg) ht.2⟩, h.op hb⟩⟩
theorem rsign_c {w : World} {s : ByteArray} {z c : Int} {k : Nat} (h : Num s z k) (h1 : 1 ≤ k) (hk : k ≤ 400) (hc : c = sgn z) :
    Calls Tryz.prog 24 #[.string s] w fun e w' => e = .returned (.int .i64 c) ∧ w = w' := by
  subst hc
  exact rsign_num h h1 hk
theorem num_eq_b {s : ByteArray} {z : Int} {k : Nat} (h : Num s z k) (h0 : z = 0) : (s.toList == [48]) = true := by
  rw [Lib.toList_data, num_zero_iff h h0]; rfl
theorem sgn_pos {z : Int} (h : 0 < z) : sgn z = 1 := by
  rcases sgn_cases z with h1 | h1 | h1
  · unfold sgn at h1; split at h1 <;> (try split at h1) <;> omega
  · unfold sgn at h1; split at h1 <;> (try split at h1) <;> omega
  · exact h1
theorem sgn_nonneg {z : Int} (h : 0 ≤ z) : 0 ≤ sgn z := by
  unfold sgn
  split <;> (try split) <;> omega
theorem pair_at0 (a b c d e f : ByteArray) (w : World) : (Instr.index 46 (.agg #[.string a, .string b, .string c, .string d, .string e, .string f]) (.int .i64 0)).run Tryz.prog w = .ok (.agg #[.string a, .string b]) w := by kernel_rfl
theorem pair_at1 (a b c d e f : ByteArray) (w : World) : (Instr.index 46 (.agg #[.string a, .string b, .string c, .string d, .string e, .string f]) (.int .i64 1)).run Tryz.prog w = .ok (.agg #[.string c, .string d]) w := by kernel_rfl
theorem pair_at2 (a b c d e f : ByteArray) (w : World) : (Instr.index 46 (.agg #[.string a, .string b, .string c, .string d, .string e, .string f]) (.int .i64 2)).run Tryz.prog w = .ok (.agg #[.string e, .string f]) w := by kernel_rfl
theorem gcd_facts {a b c : Int} (hb : b ≠ 0) (hc : c ≠ 0) :
    (b * c ≠ 0) ∧ (((Nat.gcd (a * c).natAbs (b * c).natAbs : Nat) : Int) ≠ 0) ∧ a * c % ((Nat.gcd (a * c).natAbs (b * c).natAbs : Nat) : Int) = 0 ∧ b * c % ((Nat.gcd (a * c).natAbs (b * c).natAbs : Nat) : Int) = 0 ∧ ((Nat.gcd (a * c).natAbs (b * c).natAbs : Nat) : Int) % c = 0 ∧ sgn ((Nat.gcd (a * c).natAbs (b * c).natAbs : Nat) : Int) = 1 := by
  have hbc : b * c ≠ 0 := Int.mul_ne_zero hb hc
  have hpos : 0 < Nat.gcd (a * c).natAbs (b * c).natAbs := Nat.gcd_pos_of_pos_right _ (by omega)
  refine ⟨hbc, by omega, ?_, ?_, ?_, ?_⟩
  · exact Int.emod_eq_zero_of_dvd (Int.ofNat_dvd_left.2 (Nat.gcd_dvd_left _ _))
  · exact Int.emod_eq_zero_of_dvd (Int.ofNat_dvd_left.2 (Nat.gcd_dvd_right _ _))
  · apply Int.emod_eq_zero_of_dvd
    rw [Int.ofNat_dvd_right]
    exact Nat.dvd_gcd (by rw [Int.natAbs_mul]; exact Nat.dvd_mul_left _ _) (by rw [Int.natAbs_mul]; exact Nat.dvd_mul_left _ _)
  · exact sgn_pos (by omega)

set_option maxHeartbeats 3200000 in
set_option maxRecDepth 100000 in
theorem law_divides {w : World} {A : Option Addr} {n c : Nat} (ht : Tab w) (h : Nums w A n) (hc : n ≤ c) (hcm : c ≤ maxLen) :
    Calls Tryz.prog 8 #[.slice A n c] w fun e w' => e = .returned (.bool true) ∧ Below w.heap.size w w' := by
  have H := Lib.hid (And.intro ht h)
  clear ht h
  go_enter Tryz.func8, Tryz.ntmps8
  go_wp2_with fail
  refine (Run.new H.out.1 H.out.2 hc hcm).mono ?_
  rintro e w0 ⟨g, rfl, H0⟩
  go_wp2_with fail
  refine (H0.out.draw 30 (by omega) (by omega)).mono ?_
  rintro e w1 ⟨sa, a, rfl, HA⟩
  go_wp2_with fail
  refine (HA.out.2.draw 20 (by omega) (by omega)).mono ?_
  rintro e w2 ⟨sb, b, rfl, HB⟩
  go_wp2_with fail
  refine (HB.out.2.draw 10 (by omega) (by omega)).mono ?_
  rintro e w3 ⟨sc, z, rfl, HC⟩
  by_cases hb0 : b = 0
  · have hb1 := num_eq_b HB.out.1 hb0
    clear hb0
    go_wp2_with fail
    refine (div_zero sa ⟨#[48]⟩ HA.out.1.1 rfl (HA.out.1.nd (by omega) (by omega))).mono ?_
    rintro e w4 ⟨rfl, hb4⟩
    have H4 := Lib.hid (HC.out.2.op hb4)
    clear hb4
    go_wp2_with fail
    refine (H4.out.sane H.out.1).mono ?_
    rintro e w5 ⟨rfl, hb⟩
    go_wp2
    go_ret
    exact ⟨rfl, hb⟩
  · have hb1 := num_ne HB.out.1 hb0
    by_cases hz0 : z = 0
    · have hz1 := num_eq_b HC.out.1 hz0
      clear hb0 hz0
      go_wp2_with fail
      refine (div_zero sa ⟨#[48]⟩ HA.out.1.1 rfl (HA.out.1.nd (by omega) (by omega))).mono ?_
      rintro e w4 ⟨rfl, hb4⟩
      have H4 := Lib.hid (HC.out.2.op hb4)
      clear hb4
      go_wp2_with fail
      refine (H4.out.sane H.out.1).mono ?_
      rintro e w5 ⟨rfl, hb⟩
      go_wp2
      go_ret
      exact ⟨rfl, hb⟩
    · have hz1 := num_ne HC.out.1 hz0
      have hgf := gcd_facts (a := a) hb0 hz0
      have HF := Lib.hid (And.intro hb0 (And.intro hz0 hgf))
      clear hb0 hz0 hgf
      go_wp2_with fail
      refine (HC.out.2.div HA.out.1 HB.out.1 (by omega) (by omega) (by omega) (by omega) HF.out.1).mono ?_
      rintro e w4 ⟨sq, sr, rfl, HQ⟩
      go_wp2_with fail
      refine (HQ.out.2.2.mul HQ.out.1 HB.out.1 (by omega) (by omega) (by omega)).mono ?_
      rintro e w5 ⟨sx, rfl, HX⟩
      go_wp2_with fail
      refine (HX.out.2.add HX.out.1 (HQ.out.2.1.mono (by omega)) (by omega) (by omega)).mono ?_
      rintro e w6 ⟨sy, rfl, HY⟩
      obtain rfl : sy = sa := HY.out.1.eq HA.out.1 (by rw [Int.mul_comm]; exact Int.mul_ediv_add_emod a b)
      obtain ⟨cs, hcs⟩ : ∃ cs, cs = sgn b := ⟨_, rfl⟩
      have hr0 : 0 ≤ a % b := Int.emod_nonneg a HF.out.1
      have hrs : 0 ≤ sgn (a % b) := sgn_nonneg hr0
      obtain ⟨cr, hcr⟩ : ∃ cr, cr = sgn (a % b) := ⟨_, rfl⟩
      rw [← hcr] at hrs
      have HS := Lib.hid (And.intro hcs hcr)
      by_cases hbn : b < 0
      focus
        have hcs0 : cs < 0 := by rw [hcs]; unfold sgn; rw [if_pos hbn]; omega
        have hlt : a % b < 0 - b := by
          have h9 := Int.emod_lt_of_pos a (show 0 < -b by omega)
          rw [Int.emod_neg] at h9
          omega
        obtain ⟨cc, hcc⟩ : ∃ cc, cc = cmpI (a % b) (0 - b) := ⟨_, rfl⟩
        have hcc0 : cc < 0 := by rw [hcc, cmpI_lt hlt]; omega
        have HCC := Lib.hid hcc
        clear hcs hcr hcc hbn hlt hr0
        go_wp2_with fail
        refine (rsign_c HB.out.1 (by omega) (by omega) HS.out.1).mono ?_
        rintro e w7 ⟨rfl, rfl⟩
        go_wp2_with fail
        refine (HY.out.2.rsub (num_zero.mono (by omega)) HB.out.1 (by omega) (by omega)).mono ?_
        rintro e w7 ⟨sz, rfl, HZ⟩
        go_wp2_with fail
        refine (sign_c HQ.out.2.1 (by omega) (by omega) HS.out.2).mono ?_
        rintro e w8 ⟨rfl, rfl⟩
        go_wp2_with fail
        refine (HZ.out.2.cmp (HQ.out.2.1.mono (by omega)) HZ.out.1 (by omega) (by omega) HCC.out).mono ?_
        rintro e w9 ⟨rfl, HM⟩
      rotate_left
      focus
        have hcs0 : 0 ≤ cs := by rw [hcs]; exact sgn_nonneg (by omega)
        have hlt : a % b < b := Int.emod_lt_of_pos a (by have := HF.out.1; omega)
        obtain ⟨cc, hcc⟩ : ∃ cc, cc = cmpI (a % b) b := ⟨_, rfl⟩
        have hcc0 : cc < 0 := by rw [hcc, cmpI_lt hlt]; omega
        have HCC := Lib.hid hcc
        clear hcs hcr hcc hbn hlt hr0
        go_wp2_with fail
        refine (rsign_c HB.out.1 (by omega) (by omega) HS.out.1).mono ?_
        rintro e w7 ⟨rfl, rfl⟩
        go_wp2_with fail
        refine (sign_c HQ.out.2.1 (by omega) (by omega) HS.out.2).mono ?_
        rintro e w8 ⟨rfl, rfl⟩
        go_wp2_with fail
        refine (HY.out.2.cmp HQ.out.2.1 HB.out.1 (by omega) (by omega) HCC.out).mono ?_
        rintro e w9 ⟨rfl, HM⟩
      all_goals
        go_wp2_with fail
        refine (HM.out.rmul HA.out.1 HC.out.1 (by omega) (by omega) (by omega)).mono ?_
        rintro e w10 ⟨sac, rfl, HAC⟩
        go_wp2_with fail
        refine (HAC.out.2.rmul HB.out.1 HC.out.1 (by omega) (by omega) (by omega)).mono ?_
        rintro e w11 ⟨sbc, rfl, HBC⟩
        go_wp2_with fail
        refine (HBC.out.2.gcd HAC.out.1 HBC.out.1 (by omega) (by omega) (by omega) (by omega) HF.out.2.2.1).mono ?_
        rintro e w12 ⟨sd, rfl, HD⟩
        obtain ⟨dd, hdd⟩ : ∃ dd : Int, dd = ((Nat.gcd (a * z).natAbs (b * z).natAbs : Nat) : Int) := ⟨_, rfl⟩
        have HG := Lib.hid (show Num sd dd 30 ∧ dd ≠ 0 ∧ a * z % dd = 0 ∧ b * z % dd = 0 ∧ dd % z = 0 ∧ 1 = sgn dd by
          rw [hdd]
          exact ⟨HD.out.1, HF.out.2.2.2.1, HF.out.2.2.2.2.1, HF.out.2.2.2.2.2.1, HF.out.2.2.2.2.2.2.1, HF.out.2.2.2.2.2.2.2.symm⟩)
        have HR := Lib.hid HD.out.2
        clear HD hdd
        go_wp2_with fail
        obtain ⟨wo, rfl⟩ : ∃ wo : World, wo = w12 := ⟨_, rfl⟩
        go_loopw [138] (fun iv wr => ∃ i : Nat, i ≤ 3 ∧ iv = .int .i64 (i : Int) ∧ Run w g wr) (fun iv _ => 3 - (intOf iv).toNat)
        case atStart => exact ⟨0, by omega, rfl, HR.out⟩
        case round =>
          obtain ⟨i, hi, rfl, hr⟩ := hrel
          have HW := Lib.hid hr
          clear hr
          match i, hi with
          | 0, _ =>
            rw [show ((0 : Nat) : Int) = 0 from rfl]
            have hix := fun w => pair_at0 sac sd sbc sd sd sc w
            go_wp2_with fail
            refine ((HW.out.op ((Below.refl _ _).alloc (Nat.le_refl _) _)).div HAC.out.1 HG.out.1 (by omega) (by omega) (by omega) (by omega) HG.out.2.1).mono ?_
            rintro e w13 ⟨su, sv, rfl, HU⟩
            obtain rfl := num_zero_iff HU.out.2.1 HG.out.2.2.1
            have HW2 := Lib.hid HU.out.2.2
            clear HU
            go_wp2
            go_roundw
            case rel => exact ⟨1, by omega, rfl, HW2.out⟩
            case measure => simp [intOf]
          | 1, _ =>
            rw [show ((1 : Nat) : Int) = 1 from rfl]
            have hix := fun w => pair_at1 sac sd sbc sd sd sc w
            go_wp2_with fail
            refine ((HW.out.op ((Below.refl _ _).alloc (Nat.le_refl _) _)).div HBC.out.1 HG.out.1 (by omega) (by omega) (by omega) (by omega) HG.out.2.1).mono ?_
            rintro e w13 ⟨su, sv, rfl, HU⟩
            obtain rfl := num_zero_iff HU.out.2.1 HG.out.2.2.2.1
            have HW2 := Lib.hid HU.out.2.2
            clear HU
            go_wp2
            go_roundw
            case rel => exact ⟨2, by omega, rfl, HW2.out⟩
            case measure => simp [intOf]
          | 2, _ =>
            rw [show ((2 : Nat) : Int) = 2 from rfl]
            have hix := fun w => pair_at2 sac sd sbc sd sd sc w
            go_wp2_with fail
            refine ((HW.out.op ((Below.refl _ _).alloc (Nat.le_refl _) _)).div HG.out.1 HC.out.1 (by omega) (by omega) (by omega) (by omega) HF.out.2.1).mono ?_
            rintro e w13 ⟨su, sv, rfl, HU⟩
            obtain rfl := num_zero_iff HU.out.2.1 HG.out.2.2.2.2.1
            have HW2 := Lib.hid HU.out.2.2
            clear HU
            go_wp2
            go_roundw
            case rel => exact ⟨3, by omega, rfl, HW2.out⟩
            case measure => simp [intOf]
          | 3, _ =>
            rw [show ((3 : Nat) : Int) = 3 from rfl]
            go_wp2_with fail
            refine (sign_c HG.out.1 (by omega) (by omega) HG.out.2.2.2.2.2).mono ?_
            rintro e w13 ⟨rfl, rfl⟩
            go_wp2_with fail
            refine (HW.out.sane H.out.1).mono ?_
            rintro e w14 ⟨rfl, hb⟩
            go_wp2
            go_ret
            exact ⟨rfl, hb⟩
end Go.Proofs.YthibdbpgllhcpaaGreatDoor
