/- The reference's Compare, Gcd, Make and Small of texts. The reference's Sign on texts of numbers. Both packages' Add, Mul and Div of any two texts: one result for both. Both packages' Valid, Sign, Compare, Gcd and Make of any texts: one result for both. The reference's Small of texts. Package integer's Small of any text, and one result for both packages. -/
import Derived.Test.YtjghgbfagjhdgaaGreatDoorDApi
import Derived.Test.YtjghgbfagjhdgaaGreatDoorLawOrder
import Derived.Test.YtjghgbfagjhdgaaGreatDoorRefV
import Derived.Test.YtjghgbfagjhdgaaGreatDoorDDiv
import Derived.Test.YtjghgbfagjhdgaaGreatDoorNum
namespace Go.Proofs.YtjghgbfagjhdgaaGreatDoor
open Go Go.RowKit

theorem rmake1_any {w : World} (n : Int) (h1 : -9223372036854775808 ≤ n) (h2 : n ≤ 9223372036854775807) :
    Calls Tryz.prog 136 #[.int .i64 n] w fun e w' => e = .returned (.string ⟨(Lib.itoa n).toArray⟩) ∧ Below w.heap.size w w' := by
  have hnb : n.natAbs < D.B ^ 3 := by
    have : 9223372036854775808 < D.B ^ 3 := by rw [D.B_eq]; decide
    omega
  obtain ⟨a, ha⟩ : ∃ a, a = decide (n < 0) := ⟨_, rfl⟩
  have H := Lib.hid (And.intro ha hnb)
  clear ha hnb
  go_enter Tryz.func136, Tryz.ntmps136
  go_wp2_with fail
  refine (rof_any n h1 h2).mono ?_
  rw [← H.out.1]
  rintro e w1 ⟨u, rfl, hu, hb1⟩
  have H1 := Lib.hid (And.intro (show DBig w1 (.agg #[.bool a, u]) n by rw [H.out.1]; exact hu.big) hb1)
  clear hu hb1
  go_wp2_with fail
  refine (rtext_any H1.out.1 H.out.2 (by omega)).mono ?_
  rintro e w2 ⟨rfl, hb2⟩
  have H2 := Lib.hid (H1.out.2.trans (hb2.mono H1.out.2.size))
  clear hb2
  go_wp2
  go_ret
  exact ⟨rfl, H2.out⟩
end Go.Proofs.YtjghgbfagjhdgaaGreatDoor
namespace Go.Proofs.YtjghgbfagjhdgaaGreatDoor
open Go Go.RowKit

end Go.Proofs.YtjghgbfagjhdgaaGreatDoor
namespace Go.Proofs.YtjghgbfagjhdgaaGreatDoor
open Go Go.RowKit

theorem both1_cases (s t : ByteArray) : (vld s.data.toList && vld t.data.toList) = false ∨ ∃ p q, s.data.toList = Lib.itoa p ∧ t.data.toList = Lib.itoa q ∧ Lib.nDigits p.natAbs ≤ 400 ∧ Lib.nDigits q.natAbs ≤ 400 := by
  rcases Bool.eq_false_or_eq_true (vld s.data.toList && vld t.data.toList) with h | h
  · rw [Bool.and_eq_true] at h
    obtain ⟨p, hp, hp'⟩ := itoa_of_vld h.1
    obtain ⟨q, hq, hq'⟩ := itoa_of_vld h.2
    exact .inr ⟨p, q, hp, hq, hp', hq'⟩
  · exact .inl h
theorem give_two (z : Int) : ∃ r c, give z = .tuple #[.string r, .int .i64 c] := by
  unfold give
  split
  · exact ⟨_, _, rfl⟩
  · exact ⟨_, _, rfl⟩
end Go.Proofs.YtjghgbfagjhdgaaGreatDoor
namespace Go.Proofs.YtjghgbfagjhdgaaGreatDoor
open Go Go.RowKit

set_option maxHeartbeats 400000 in
theorem sign_bad {w : World} (s : ByteArray) (h : vld s.data.toList = false) : Calls Tryz.prog 217 #[.string s] w fun e w' => e = .returned (.int .i64 0) ∧ w = w' := by
  have HV := Lib.hid h
  clear h
  go_enter Tryz.func217, Tryz.ntmps217
  go_wp2_with fail
  refine (valid_c s HV.out).mono ?_
  rintro e w1 ⟨rfl, rfl⟩
  go_wp2
  go_ret
  exact ⟨rfl, rfl⟩
set_option maxHeartbeats 800000 in
theorem compare_bad {w : World} (s t : ByteArray) (h : (vld s.data.toList && vld t.data.toList) = false) :
    Calls Tryz.prog 193 #[.string s, .string t] w fun e w' => e = .returned (.int .i64 0) ∧ Below w.heap.size w w' := by
  have H := Lib.hid h
  clear h
  by_cases h1 : vld s.data.toList = true
  · have h2 : vld t.data.toList = false := by have := H.out; rw [h1, Bool.true_and] at this; exact this
    have HV := Lib.hid (And.intro h1 h2)
    clear h1 h2
    go_enter Tryz.func193, Tryz.ntmps193
    go_wp2_with fail
    refine (valid_c s HV.out.1).mono ?_
    rintro e w1 ⟨rfl, rfl⟩
    go_wp2_with fail
    refine (valid_c t HV.out.2).mono ?_
    rintro e w1 ⟨rfl, rfl⟩
    go_wp2
    go_ret
    exact ⟨rfl, Below.refl _ _⟩
  · have h2 : vld s.data.toList = false := by simpa using h1
    have HV := Lib.hid h2
    clear h1 h2
    go_enter Tryz.func193, Tryz.ntmps193
    go_wp2_with fail
    refine (valid_c s HV.out).mono ?_
    rintro e w1 ⟨rfl, rfl⟩
    go_wp2
    go_ret
    exact ⟨rfl, Below.refl _ _⟩
theorem num_of {s : ByteArray} {z : Int} {k : Nat} (h : s.data.toList = Lib.itoa z) (hd : Lib.nDigits z.natAbs ≤ k) : Num s z k :=
  ⟨h, Nat.lt_of_lt_of_le (Lib.lt_pow_nDigits _) (Nat.pow_le_pow_right (by decide) hd)⟩
theorem valid_tot (s : ByteArray) : ∃ b, (∀ w, Calls Tryz.prog 192 #[.string s] w fun e w' => e = .returned (.bool b) ∧ w = w') ∧ (∀ w, Calls Tryz.prog 186 #[.string s] w fun e w' => e = .returned (.bool b) ∧ w = w') :=
  ⟨_, fun _ => valid_c s rfl, fun _ => rvalid_b s rfl⟩
end Go.Proofs.YtjghgbfagjhdgaaGreatDoor
namespace Go.Proofs.YtjghgbfagjhdgaaGreatDoor
open Go Go.RowKit

def inSm (n : Int) : Bool := decide (n.natAbs ≤ 4611686018427387904)
theorem dval_step {n i : Nat} : n / D.B ^ (i + 1) * 1000000000 + D.dg n i = n / D.B ^ i := by
  have h := Nat.div_add_mod (n / D.B ^ i) D.B
  rw [Nat.div_div_eq_div_mul, ← Nat.pow_succ, Nat.mul_comm] at h
  rw [← D.B_eq]
  exact h
end Go.Proofs.YtjghgbfagjhdgaaGreatDoor
namespace Go.Proofs.YtjghgbfagjhdgaaGreatDoor
open Go Go.RowKit

theorem parse_far : ∀ (l : List UInt8) (acc : Nat), (∀ c ∈ l, T.digit c = true) → Lib.parseUint10 acc l = .ok (T.numA acc l) ∨ Lib.parseUint10 acc l = .range
  | [], acc, _ => by simp [Lib.parseUint10, T.numA]
  | c :: l, acc, h => by
    have hd := T.digit_iff.1 (h c (List.mem_cons_self ..))
    have ih := parse_far l (acc * 10 + (c.toNat - 48)) (fun x hx => h x (List.mem_cons_of_mem _ hx))
    rw [T.numA_cons, Lib.parseUint10, if_pos hd]
    by_cases h1 : 1844674407370955162 ≤ acc
    · right; rw [if_pos h1]
    · by_cases h2 : 18446744073709551616 ≤ acc * 10 + (c.toNat - 48)
      · right; rw [if_neg h1, if_pos h2]
      · rw [if_neg h1, if_neg h2]; exact ih
theorem mag_far (u : Nat) : Lib.parseMag (Lib.decDigits u) = .ok u ∨ Lib.parseMag (Lib.decDigits u) = .range := by
  have e := T.num_decDigits u
  unfold T.num at e
  have hp := parse_far (Lib.decDigits u) 0 (T.decDigits_digit u)
  rw [e] at hp
  unfold Lib.parseMag
  rw [if_neg (T.decDigits_ne u)]
  exact hp
theorem atoi_far {n : Int} (h : n < -9223372036854775808 ∨ 9223372036854775807 < n) : Lib.atoiAll (Lib.itoa n) = .range := by
  by_cases hn : n < 0
  · rw [T.itoa_neg hn]
    unfold Lib.atoiAll
    have e : (45 : UInt8).toNat = 45 := rfl
    simp only [e]
    rw [if_pos (Or.inr trivial)]
    rcases mag_far n.natAbs with hm | hm
    · rw [hm]
      simp only
      rw [if_neg (by simp), if_pos ⟨trivial, by omega⟩]
    · rw [hm]
  · rw [T.itoa_nonneg hn]
    have hdg := T.decDigits_digit n.natAbs
    rcases mag_far n.natAbs with hm | hm
    all_goals
      cases hc : Lib.decDigits n.natAbs with
      | nil => exact absurd hc (T.decDigits_ne _)
      | cons c r =>
        rw [hc] at hm hdg
        have h3 := T.digit_iff.1 (hdg c (List.mem_cons_self ..))
        unfold Lib.atoiAll
        simp only
        rw [if_neg (by omega), hm]
        try simp only
        try rw [if_pos ⟨by omega, by omega⟩]

/-- strconv.ErrRange holds an error, or nil. -/
def ErrAt (w : World) : Prop := ∃ ev, w.cell? ⟨5, 0, none⟩ = some ev ∧ (ev = .nilIface ∨ ∃ te pe, ev = .iface te pe)
theorem ErrAt.below {w w' : World} (h : ErrAt w) (hb : Below w.heap.size w w') : ErrAt w' := by
  obtain ⟨ev, h1, h2⟩ := h
  exact ⟨ev, (hb.cell (Lib.lt_of_cell h1)).trans h1, h2⟩

set_option maxHeartbeats 800000 in
theorem small_bad {w : World} (s : ByteArray) (h : vld s.data.toList = false) :
    Calls Tryz.prog 196 #[.string s] w fun e w' => e = .returned (.tuple #[.int .i64 0, .bool false]) ∧ Below w.heap.size w w' := by
  have HV := Lib.hid h
  clear h
  go_enter Tryz.func196, Tryz.ntmps196
  go_wp2_with fail
  refine (valid_c s HV.out).mono ?_
  rintro e w1 ⟨rfl, rfl⟩
  go_wp2
  go_ret2
  exact ⟨rfl, Below.refl _ _⟩
theorem text_size {s : ByteArray} {n : Int} (hs : s.data.toList = Lib.itoa n) (hd : Lib.nDigits n.natAbs ≤ 400) : s.size ≤ 500 := by
  rw [Lib.size_eq, hs]
  by_cases hn : n < 0
  · rw [T.itoa_neg hn, List.length_cons, Lib.decDigits_length]; omega
  · rw [T.itoa_nonneg hn, Lib.decDigits_length]; omega
set_option maxHeartbeats 800000 in
set_option maxRecDepth 100000 in
theorem small_far {w : World} (he : ErrAt w) (s : ByteArray) {n : Int} (hs : s.data.toList = Lib.itoa n) (hd : Lib.nDigits n.natAbs ≤ 400) (h : n < -9223372036854775808 ∨ 9223372036854775807 < n) :
    Calls Tryz.prog 196 #[.string s] w fun e w' => e = .returned (.tuple #[.int .i64 0, .bool false]) ∧ Below w.heap.size w w' := by
  have hsz := text_size hs hd
  have hv : vld s.data.toList = true := by rw [hs]; exact vld_itoa hd
  have hat : Lib.atoiAll s.data.toList = .range := by rw [hs]; exact atoi_far h
  obtain ⟨ev, h1, h2⟩ := he
  have H := Lib.hid (And.intro hv (And.intro hat (And.intro h1 h2)))
  clear hv hat hs hd h h1 h2
  go_enter Tryz.func196, Tryz.ntmps196
  go_wp2_with fail
  refine (valid_c s H.out.1).mono ?_
  rintro e w1 ⟨rfl, rfl⟩
  go_wp2_with fail
  refine (Tryz.strconv_Atoi_range s (by omega) H.out.2.1 ev w H.out.2.2.1 H.out.2.2.2).mono ?_
  rintro e w1 ⟨N, rfl, hN, hc, hb⟩
  have HB := Lib.hid hb
  clear hb hc hN
  generalize Lib.atoiSat s.data.toList = sat
  go_wp2
  go_ret2
  exact ⟨rfl, HB.out⟩
set_option maxHeartbeats 800000 in
set_option maxRecDepth 100000 in
theorem small_near {w : World} {s : ByteArray} {n : Int} (hs : s.data.toList = Lib.itoa n) (h0 : -9223372036854775808 ≤ n) (h1 : n ≤ 9223372036854775807) :
    Calls Tryz.prog 196 #[.string s] w fun e w' => e = .returned (.tuple #[.int .i64 (if inSm n = true then n else 0), .bool (inSm n)]) ∧ Below w.heap.size w w' := by
  have hnd : Lib.nDigits n.natAbs ≤ 400 := Nat.le_trans (nDigits_le (k := 19) (by decide) (by omega)) (by decide)
  have hsz := text_size hs hnd
  have hv : vld s.data.toList = true := by rw [hs]; exact vld_itoa hnd
  have hat : Lib.atoiAll s.data.toList = .ok n := by rw [hs]; exact atoi_itoa h0 h1
  have H := Lib.hid (And.intro hv hat)
  clear hv hat hs hnd
  obtain ⟨ok, hok⟩ : ∃ ok, ok = inSm n := ⟨_, rfl⟩
  obtain ⟨r, hr⟩ : ∃ r, r = if inSm n = true then n else 0 := ⟨_, rfl⟩
  rw [← hr, ← hok]
  have HR := Lib.hid (And.intro hok hr)
  clear hok hr
  go_enter Tryz.func196, Tryz.ntmps196
  go_wp2_with fail
  refine (valid_c s H.out.1).mono ?_
  rintro e w1 ⟨rfl, rfl⟩
  go_wp2_with fail
  refine (Tryz.strconv_Atoi_ok s (by omega) n H.out.2 w).mono ?_
  rintro e w1 ⟨rfl, hw⟩
  have hb : Below w.heap.size w w1 := by
    rcases hw with rfl | ⟨t, rfl⟩
    · exact Below.refl _ _
    · exact bytesWorld_below _ _ _
  have HB := Lib.hid hb
  clear hb hw
  by_cases hl : n < -4611686018427387904
  · have HI := Lib.hid (show inSm n = false from decide_eq_false (by omega))
    go_wp2
    go_ret2
    exact ⟨by rw [HR.out.2, HR.out.1, HI.out]; rfl, HB.out⟩
  · by_cases hg : 4611686018427387904 < n
    · have HI := Lib.hid (show inSm n = false from decide_eq_false (by omega))
      go_wp2
      go_ret2
      exact ⟨by rw [HR.out.2, HR.out.1, HI.out]; rfl, HB.out⟩
    · have HI := Lib.hid (show inSm n = true from decide_eq_true (by omega))
      go_wp2
      go_ret2
      exact ⟨by rw [HR.out.2, HR.out.1, HI.out, if_pos rfl]; rfl, HB.out⟩
end Go.Proofs.YtjghgbfagjhdgaaGreatDoor
