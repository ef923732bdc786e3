/- Small on the text of an int; the law IntegerOrder. -/
import Derived.Test.YtafknlnlejopeaaGreatDoorOrd
namespace Go.Proofs.YtafknlnlejopeaaGreatDoor
open Go Go.RowKit

theorem parse_num : ∀ (l : List UInt8) (acc : Nat), (∀ c ∈ l, T.digit c = true) → T.numA acc l ≤ 9223372036854775808 → Lib.parseUint10 acc l = .ok (T.numA acc l)
  | [], acc, _, _ => by simp [Lib.parseUint10, T.numA]
  | c :: l, acc, h, hb => by
    have hd := T.digit_iff.1 (h c (List.mem_cons_self ..))
    have ih := parse_num l (acc * 10 + (c.toNat - 48)) (fun x hx => h x (List.mem_cons_of_mem _ hx))
    rw [T.numA_cons] at hb ⊢
    have hm : acc * 10 + (c.toNat - 48) ≤ T.numA (acc * 10 + (c.toNat - 48)) l := by
      rw [T.numA_eq l (acc * 10 + (c.toNat - 48))]
      have := Nat.le_mul_of_pos_right (acc * 10 + (c.toNat - 48)) (Nat.pow_pos (n := l.length) (show 0 < 10 by decide))
      omega
    rw [Lib.parseUint10, if_pos hd, if_neg (by omega), if_neg (by omega)]
    exact ih hb
theorem mag_dec {u : Nat} (h : u ≤ 9223372036854775808) : Lib.parseMag (Lib.decDigits u) = .ok u := by
  have e := T.num_decDigits u
  unfold T.num at e
  have hp := parse_num (Lib.decDigits u) 0 (T.decDigits_digit u) (by rw [e]; exact h)
  rw [e] at hp
  unfold Lib.parseMag
  rw [if_neg (T.decDigits_ne u)]
  exact hp
theorem atoi_itoa {n : Int} (h0 : -9223372036854775808 ≤ n) (h1 : n ≤ 9223372036854775807) : Lib.atoiAll (Lib.itoa n) = .ok n := by
  by_cases hn : n < 0
  · rw [T.itoa_neg hn]
    unfold Lib.atoiAll
    have e : (45 : UInt8).toNat = 45 := rfl
    simp only [e]
    rw [if_pos (Or.inr trivial), mag_dec (by omega)]
    simp only
    rw [if_neg (by simp), if_neg (by omega)]
    simp
    try omega
  · rw [T.itoa_nonneg hn]
    have hm := mag_dec (show n.natAbs ≤ 9223372036854775808 by omega)
    have hdg := T.decDigits_digit n.natAbs
    cases hc : Lib.decDigits n.natAbs with
    | nil => exact absurd hc (T.decDigits_ne _)
    | cons c r =>
      rw [hc] at hm hdg
      have h3 := T.digit_iff.1 (hdg c (List.mem_cons_self ..))
      unfold Lib.atoiAll
      simp only
      rw [if_neg (by omega), hm]
      simp only
      rw [if_neg (by omega), if_neg (by omega), if_neg (by omega)]
      congr 1
      omega

set_option maxHeartbeats 800000 in
set_option maxRecDepth 100000 in
theorem small_any {w : World} {s : ByteArray} {n : Int} (hs : s.data.toList = Lib.itoa n) (h0 : -9223372036854775808 ≤ n) (h1 : n ≤ 9223372036854775807) :
    Calls Tryz.prog 20 #[.string s] w fun e w' => ∃ k ok, e = .returned (.tuple #[.int .i64 k, .bool ok]) ∧ (ok = true → k = n) ∧ ok = decide (-4611686018427387904 ≤ n ∧ n ≤ 4611686018427387904) ∧ Below w.heap.size w w' := by
  have hnd : Lib.nDigits n.natAbs ≤ 400 := Nat.le_trans (nDigits_le (k := 19) (by decide) (by omega)) (by decide)
  have hsz : s.size ≤ 500 := by
    rw [Lib.size_eq, hs]
    by_cases hn : n < 0
    · rw [T.itoa_neg hn, List.length_cons, Lib.decDigits_length]; omega
    · rw [T.itoa_nonneg hn, Lib.decDigits_length]; omega
  have hv : vld s.data.toList = true := by rw [hs]; exact vld_itoa hnd
  have hat : Lib.atoiAll s.data.toList = .ok n := by rw [hs]; exact atoi_itoa h0 h1
  have H := Lib.hid (And.intro hv hat)
  clear hv hat hs hnd
  go_enter Tryz.func20, Tryz.ntmps20
  go_wp2_with fail
  refine (valid_c s H.out.1).mono ?_
  rintro e w1 ⟨rfl, rfl⟩
  go_wp2_with fail
  refine (Tryz.strconv_Atoi_ok s (by omega) n H.out.2 w).mono ?_
  rintro e w1 ⟨rfl, hw⟩
  have hb : Below w.heap.size w w1 := by
    rcases hw with rfl | ⟨t, rfl⟩
    · exact Below.refl _ _
    · exact bytesWorld_below _ _ _
  have HB := Lib.hid hb
  clear hb hw
  by_cases hl : n < -4611686018427387904
  · go_wp2
    go_ret2
    exact ⟨_, false, rfl, fun h => (by cases h), (decide_eq_false (by omega)).symm, HB.out⟩
  · by_cases hg : 4611686018427387904 < n
    · go_wp2
      go_ret2
      exact ⟨_, false, rfl, fun h => (by cases h), (decide_eq_false (by omega)).symm, HB.out⟩
    · go_wp2
      go_ret2
      exact ⟨n, true, rfl, fun _ => rfl, (decide_eq_true (by omega)).symm, HB.out⟩

theorem Run.cmp {w w1 : World} {g : Nat} (h : Run w g w1) {s t : ByteArray} {p q : Int} {k : Nat} {c : Int} (hs : Num s p k) (ht : Num t q k) (h1 : 1 ≤ k) (hk : k ≤ 400) (hc : c = cmpI p q) :
    Calls Tryz.prog 25 #[.string s, .string t] w1 fun e w' => e = .returned (.int .i64 c) ∧ Hid (Run w g w') := by
  subst hc
  exact (compare_num hs ht h1 hk).mono fun _ _ ⟨he, hb⟩ => ⟨he, Lib.hid (h.op hb)⟩
theorem sign_c {w : World} {s : ByteArray} {z c : Int} {k : Nat} (h : Num s z k) (h1 : 1 ≤ k) (hk : k ≤ 400) (hc : c = sgn z) :
    Calls Tryz.prog 23 #[.string s] w fun e w' => e = .returned (.int .i64 c) ∧ w = w' := by
  subst hc
  exact sign_num h h1 hk
theorem Run.make {w w1 : World} {g : Nat} (h : Run w g w1) (ht : Tab w) (n : Int) (h0 : -9223372036854775808 ≤ n) (h1 : n ≤ 9223372036854775807) :
    Calls Tryz.prog 18 #[.int .i64 n] w1 fun e w' => ∃ s : ByteArray, e = .returned (.string s) ∧ Hid (s.data.toList = Lib.itoa n ∧ Run w g w') :=
  (make_any n h0 h1 (ht.below h.2.2)).mono fun _ _ ⟨he, hb⟩ => ⟨_, he, Lib.hid ⟨rfl, h.op hb⟩⟩
theorem Run.small {w w1 : World} {g : Nat} (h : Run w g w1) {s : ByteArray} {n : Int} (hs : s.data.toList = Lib.itoa n) (h0 : -9223372036854775808 ≤ n) (h1 : n ≤ 9223372036854775807) :
    Calls Tryz.prog 20 #[.string s] w1 fun e w' => ∃ k ok, e = .returned (.tuple #[.int .i64 k, .bool ok]) ∧ (ok = true → k = n) ∧ ok = decide (-4611686018427387904 ≤ n ∧ n ≤ 4611686018427387904) ∧ Hid (Run w g w') :=
  (small_any hs h0 h1).mono fun _ _ ⟨k, ok, he, h2, h3, hb⟩ => ⟨k, ok, he, h2, h3, Lib.hid (h.op hb)⟩
theorem cmp_sub (a b : Int) : cmpI a b = sgn (a - b) := by
  unfold cmpI sgn
  rcases Int.lt_trichotomy a b with h | h | h
  · rw [if_pos h, if_pos (by omega)]
  · rw [if_neg (by omega), if_neg (by omega), if_neg (by omega), if_neg (by omega)]
  · rw [if_neg (by omega), if_pos h, if_neg (by omega), if_pos (by omega)]
theorem cmp_swap (a b : Int) : cmpI b a = -cmpI a b := by
  unfold cmpI
  rcases Int.lt_trichotomy a b with h | h | h
  · rw [if_neg (by omega), if_pos h, if_pos h]; rfl
  · rw [if_neg (by omega), if_neg (by omega), if_neg (by omega), if_neg (by omega)]; rfl
  · rw [if_pos h, if_neg (by omega), if_pos h]
theorem cmp_le {a b : Int} : cmpI a b ≤ 0 ↔ a ≤ b := by
  unfold cmpI
  split
  · omega
  · split <;> omega

set_option maxHeartbeats 1600000 in
set_option maxRecDepth 100000 in
theorem law_order {w : World} {A : Option Addr} {n c : Nat} {m : Int} (ht : Tab w) (h : Nums w A n) (hc : n ≤ c) (hcm : c ≤ maxLen) (hm0 : -9223372036854775808 ≤ m) (hm1 : m ≤ 9223372036854775807) :
    Calls Tryz.prog 9 #[.slice A n c, .int .i64 m] w fun e w' => e = .returned (.bool true) ∧ Below w.heap.size w w' := by
  have H := Lib.hid (And.intro ht h)
  clear ht h
  go_enter Tryz.func9, Tryz.ntmps9
  go_wp2_with fail
  refine (Run.new H.out.2 hc hcm).mono ?_
  rintro e w0 ⟨g, rfl, H0⟩
  go_wp2_with fail
  refine (H0.out.draw 25 (by omega) (by omega)).mono ?_
  rintro e w1 ⟨sa, a, rfl, HA⟩
  go_wp2_with fail
  refine (HA.out.2.draw 25 (by omega) (by omega)).mono ?_
  rintro e w2 ⟨sb, b, rfl, HB⟩
  go_wp2_with fail
  refine (HB.out.2.draw 25 (by omega) (by omega)).mono ?_
  rintro e w3 ⟨sc, z, rfl, HC⟩
  go_wp2_with fail
  refine (HC.out.2.sub HA.out.1 HB.out.1 (by omega) (by omega)).mono ?_
  rintro e w4 ⟨sd, rfl, HD⟩
  obtain ⟨x, hx⟩ : ∃ x, x = cmpI a b := ⟨_, rfl⟩
  obtain ⟨y, hy⟩ : ∃ y, y = cmpI b z := ⟨_, rfl⟩
  obtain ⟨v, hv⟩ : ∃ v, v = cmpI a z := ⟨_, rfl⟩
  have hxr : -1 ≤ x ∧ x ≤ 1 := by rw [hx]; exact cmpI_range _ _
  have hxyv : x ≤ 0 → y ≤ 0 → v ≤ 0 := by
    rw [hx, hy, hv, cmp_le, cmp_le, cmp_le]; omega
  have hxx : (x != x) = false := by simp
  have hxn : (-x != -x) = false := by simp
  have HXY := Lib.hid hxyv
  clear hxyv
  have HX := Lib.hid (And.intro hx (And.intro hy (And.intro hv (And.intro (show x = sgn (a - b) by rw [hx, cmp_sub]) (show -x = cmpI b a by rw [hx, ← cmp_swap])))))
  clear hx hy hv
  go_wp2_with fail
  refine (HD.out.2.cmp HA.out.1 HB.out.1 (by omega) (by omega) HX.out.1).mono ?_
  rintro e w5 ⟨rfl, H5⟩
  go_wp2_with fail
  refine (sign_c HD.out.1 (by omega) (by omega) HX.out.2.2.2.1).mono ?_
  rintro e w5 ⟨rfl, rfl⟩
  go_wp2_with fail
  refine (H5.out.cmp HB.out.1 HA.out.1 (by omega) (by omega) HX.out.2.2.2.2).mono ?_
  rintro e w6 ⟨rfl, H6⟩
  go_wp2_with fail
  refine (sign_c HD.out.1 (by omega) (by omega) HX.out.2.2.2.1).mono ?_
  rintro e w6 ⟨rfl, rfl⟩
  go_wp2_with fail
  refine (H6.out.cmp HA.out.1 HB.out.1 (by omega) (by omega) HX.out.1).mono ?_
  rintro e w7 ⟨rfl, H7⟩
  by_cases hx0 : x ≤ 0
  · go_wp2_with fail
    refine (H7.out.cmp HB.out.1 HC.out.1 (by omega) (by omega) HX.out.2.1).mono ?_
    rintro e w8 ⟨rfl, H8⟩
    by_cases hy0 : y ≤ 0
    · have hv0 := HXY.out hx0 hy0
      go_wp2_with fail
      refine (H8.out.cmp HA.out.1 HC.out.1 (by omega) (by omega) HX.out.2.2.1).mono ?_
      rintro e w9 ⟨rfl, H9⟩
      go_wp2_with fail
      refine (H9.out.make H.out.1 m hm0 hm1).mono ?_
      rintro e wm ⟨sm, rfl, HM⟩
      go_wp2_with fail
      refine (HM.out.2.small HM.out.1 hm0 hm1).mono ?_
      rintro e ws ⟨k, ok, rfl, hk, hok, HS⟩
      by_cases hl : m < -4611686018427387904
      · obtain rfl : ok = false := by rw [hok]; exact decide_eq_false (by omega)
        clear hk hok
        go_wp2_with fail
        refine (HS.out.sane H.out.1).mono ?_
        rintro e wz ⟨rfl, hb⟩
        go_wp2
        go_ret
        exact ⟨rfl, hb⟩
      · by_cases hg : 4611686018427387904 < m
        · obtain rfl : ok = false := by rw [hok]; exact decide_eq_false (by omega)
          clear hk hok
          go_wp2_with fail
          refine (HS.out.sane H.out.1).mono ?_
          rintro e wz ⟨rfl, hb⟩
          go_wp2
          go_ret
          have hle : decide (m ≤ 4611686018427387904) = false := decide_eq_false (by omega)
          exact ⟨by rw [hle]; rfl, hb⟩
        · obtain rfl : ok = true := by rw [hok]; exact decide_eq_true (by omega)
          obtain rfl := hk rfl
          clear hok
          go_wp2_with fail
          refine (HS.out.sane H.out.1).mono ?_
          rintro e wz ⟨rfl, hb⟩
          go_wp2
          go_ret
          exact ⟨rfl, hb⟩
    · go_wp2_with fail
      refine (H8.out.make H.out.1 m hm0 hm1).mono ?_
      rintro e wm ⟨sm, rfl, HM⟩
      go_wp2_with fail
      refine (HM.out.2.small HM.out.1 hm0 hm1).mono ?_
      rintro e ws ⟨k, ok, rfl, hk, hok, HS⟩
      by_cases hl : m < -4611686018427387904
      · obtain rfl : ok = false := by rw [hok]; exact decide_eq_false (by omega)
        clear hk hok
        go_wp2_with fail
        refine (HS.out.sane H.out.1).mono ?_
        rintro e wz ⟨rfl, hb⟩
        go_wp2
        go_ret
        exact ⟨rfl, hb⟩
      · by_cases hg : 4611686018427387904 < m
        · obtain rfl : ok = false := by rw [hok]; exact decide_eq_false (by omega)
          clear hk hok
          go_wp2_with fail
          refine (HS.out.sane H.out.1).mono ?_
          rintro e wz ⟨rfl, hb⟩
          go_wp2
          go_ret
          have hle : decide (m ≤ 4611686018427387904) = false := decide_eq_false (by omega)
          exact ⟨by rw [hle]; rfl, hb⟩
        · obtain rfl : ok = true := by rw [hok]; exact decide_eq_true (by omega)
          obtain rfl := hk rfl
          clear hok
          go_wp2_with fail
          refine (HS.out.sane H.out.1).mono ?_
          rintro e wz ⟨rfl, hb⟩
          go_wp2
          go_ret
          exact ⟨rfl, hb⟩
  · go_wp2_with fail
    refine (H7.out.make H.out.1 m hm0 hm1).mono ?_
    rintro e wm ⟨sm, rfl, HM⟩
    go_wp2_with fail
    refine (HM.out.2.small HM.out.1 hm0 hm1).mono ?_
    rintro e ws ⟨k, ok, rfl, hk, hok, HS⟩
    by_cases hl : m < -4611686018427387904
    · obtain rfl : ok = false := by rw [hok]; exact decide_eq_false (by omega)
      clear hk hok
      go_wp2_with fail
      refine (HS.out.sane H.out.1).mono ?_
      rintro e wz ⟨rfl, hb⟩
      go_wp2
      go_ret
      exact ⟨rfl, hb⟩
    · by_cases hg : 4611686018427387904 < m
      · obtain rfl : ok = false := by rw [hok]; exact decide_eq_false (by omega)
        clear hk hok
        go_wp2_with fail
        refine (HS.out.sane H.out.1).mono ?_
        rintro e wz ⟨rfl, hb⟩
        go_wp2
        go_ret
        have hle : decide (m ≤ 4611686018427387904) = false := decide_eq_false (by omega)
        exact ⟨by rw [hle]; rfl, hb⟩
      · obtain rfl : ok = true := by rw [hok]; exact decide_eq_true (by omega)
        obtain rfl := hk rfl
        clear hok
        go_wp2_with fail
        refine (HS.out.sane H.out.1).mono ?_
        rintro e wz ⟨rfl, hb⟩
        go_wp2
        go_ret
        exact ⟨rfl, hb⟩
end Go.Proofs.YtafknlnlejopeaaGreatDoor
