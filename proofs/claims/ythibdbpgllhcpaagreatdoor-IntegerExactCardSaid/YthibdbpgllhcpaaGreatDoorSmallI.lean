/- Package integer's Small of any text, and one result for both packages. -/
import Derived.Test.YthibdbpgllhcpaaGreatDoorSmallR
import Derived.Test.YthibdbpgllhcpaaGreatDoorTotB
namespace Go.Proofs.YthibdbpgllhcpaaGreatDoor
open Go Go.RowKit

theorem parse_far : ∀ (l : List UInt8) (acc : Nat), (∀ c ∈ l, T.digit c = true) → Lib.parseUint10 acc l = .ok (T.numA acc l) ∨ Lib.parseUint10 acc l = .range
  | [], acc, _ => by simp [Lib.parseUint10, T.numA]
  | c :: l, acc, h => by
    have hd := T.digit_iff.1 (h c (List.mem_cons_self ..))
    have ih := parse_far l (acc * 10 + (c.toNat - 48)) (fun x hx => h x (List.mem_cons_of_mem _ hx))
    rw [T.numA_cons, Lib.parseUint10, if_pos hd]
    by_cases h1 : 1844674407370955162 ≤ acc
    · right; rw [if_pos h1]
    · by_cases h2 : 18446744073709551616 ≤ acc * 10 + (c.toNat - 48)
      · right; rw [if_neg h1, if_pos h2]
      · rw [if_neg h1, if_neg h2]; exact ih
theorem mag_far (u : Nat) : Lib.parseMag (Lib.decDigits u) = .ok u ∨ Lib.parseMag (Lib.decDigits u) = .range := by
  have e := T.num_decDigits u
  unfold T.num at e
  have hp := parse_far (Lib.decDigits u) 0 (T.decDigits_digit u)
  rw [e] at hp
  unfold Lib.parseMag
  rw [if_neg (T.decDigits_ne u)]
  exact hp
theorem atoi_far {n : Int} (h : n < -9223372036854775808 ∨ 9223372036854775807 < n) : Lib.atoiAll (Lib.itoa n) = .range := by
  by_cases hn : n < 0
  · rw [T.itoa_neg hn]
    unfold Lib.atoiAll
    have e : (45 : UInt8).toNat = 45 := rfl
    simp only [e]
    rw [if_pos (Or.inr trivial)]
    rcases mag_far n.natAbs with hm | hm
    · rw [hm]
      simp only
      rw [if_neg (by simp), if_pos ⟨trivial, by omega⟩]
    · rw [hm]
  · rw [T.itoa_nonneg hn]
    have hdg := T.decDigits_digit n.natAbs
    rcases mag_far n.natAbs with hm | hm
    all_goals
      cases hc : Lib.decDigits n.natAbs with
      | nil => exact absurd hc (T.decDigits_ne _)
      | cons c r =>
        rw [hc] at hm hdg
        have h3 := T.digit_iff.1 (hdg c (List.mem_cons_self ..))
        unfold Lib.atoiAll
        simp only
        rw [if_neg (by omega), hm]
        try simp only
        try rw [if_pos ⟨by omega, by omega⟩]

/-- strconv.ErrRange holds an error, or nil. -/
def ErrAt (w : World) : Prop := ∃ ev, w.cell? ⟨1, 0, none⟩ = some ev ∧ (ev = .nilIface ∨ ∃ te pe, ev = .iface te pe)
theorem ErrAt.below {w w' : World} (h : ErrAt w) (hb : Below w.heap.size w w') : ErrAt w' := by
  obtain ⟨ev, h1, h2⟩ := h
  exact ⟨ev, (hb.cell (Lib.lt_of_cell h1)).trans h1, h2⟩

set_option maxHeartbeats 800000 in
theorem small_bad {w : World} (s : ByteArray) (h : vld s.data.toList = false) :
    Calls Tryz.prog 20 #[.string s] w fun e w' => e = .returned (.tuple #[.int .i64 0, .bool false]) ∧ Below w.heap.size w w' := by
  have HV := Lib.hid h
  clear h
  go_enter Tryz.func20, Tryz.ntmps20
  go_wp2_with fail
  refine (valid_c s HV.out).mono ?_
  rintro e w1 ⟨rfl, rfl⟩
  go_wp2
  go_ret2
  exact ⟨rfl, Below.refl _ _⟩
theorem text_size {s : ByteArray} {n : Int} (hs : s.data.toList = Lib.itoa n) (hd : Lib.nDigits n.natAbs ≤ 400) : s.size ≤ 500 := by
  rw [Lib.size_eq, hs]
  by_cases hn : n < 0
  · rw [T.itoa_neg hn, List.length_cons, Lib.decDigits_length]; omega
  · rw [T.itoa_nonneg hn, Lib.decDigits_length]; omega
set_option maxHeartbeats 800000 in
set_option maxRecDepth 100000 in
theorem small_far {w : World} (he : ErrAt w) (s : ByteArray) {n : Int} (hs : s.data.toList = Lib.itoa n) (hd : Lib.nDigits n.natAbs ≤ 400) (h : n < -9223372036854775808 ∨ 9223372036854775807 < n) :
    Calls Tryz.prog 20 #[.string s] w fun e w' => e = .returned (.tuple #[.int .i64 0, .bool false]) ∧ Below w.heap.size w w' := by
  have hsz := text_size hs hd
  have hv : vld s.data.toList = true := by rw [hs]; exact vld_itoa hd
  have hat : Lib.atoiAll s.data.toList = .range := by rw [hs]; exact atoi_far h
  obtain ⟨ev, h1, h2⟩ := he
  have H := Lib.hid (And.intro hv (And.intro hat (And.intro h1 h2)))
  clear hv hat hs hd h h1 h2
  go_enter Tryz.func20, Tryz.ntmps20
  go_wp2_with fail
  refine (valid_c s H.out.1).mono ?_
  rintro e w1 ⟨rfl, rfl⟩
  go_wp2_with fail
  refine (Tryz.strconv_Atoi_range s (by omega) H.out.2.1 ev w H.out.2.2.1 H.out.2.2.2).mono ?_
  rintro e w1 ⟨N, rfl, hN, hc, hb⟩
  have HB := Lib.hid hb
  clear hb hc hN
  generalize Lib.atoiSat s.data.toList = sat
  go_wp2
  go_ret2
  exact ⟨rfl, HB.out⟩
set_option maxHeartbeats 800000 in
set_option maxRecDepth 100000 in
theorem small_near {w : World} {s : ByteArray} {n : Int} (hs : s.data.toList = Lib.itoa n) (h0 : -9223372036854775808 ≤ n) (h1 : n ≤ 9223372036854775807) :
    Calls Tryz.prog 20 #[.string s] w fun e w' => e = .returned (.tuple #[.int .i64 (if inSm n = true then n else 0), .bool (inSm n)]) ∧ Below w.heap.size w w' := by
  have hnd : Lib.nDigits n.natAbs ≤ 400 := Nat.le_trans (nDigits_le (k := 19) (by decide) (by omega)) (by decide)
  have hsz := text_size hs hnd
  have hv : vld s.data.toList = true := by rw [hs]; exact vld_itoa hnd
  have hat : Lib.atoiAll s.data.toList = .ok n := by rw [hs]; exact atoi_itoa h0 h1
  have H := Lib.hid (And.intro hv hat)
  clear hv hat hs hnd
  obtain ⟨ok, hok⟩ : ∃ ok, ok = inSm n := ⟨_, rfl⟩
  obtain ⟨r, hr⟩ : ∃ r, r = if inSm n = true then n else 0 := ⟨_, rfl⟩
  rw [← hr, ← hok]
  have HR := Lib.hid (And.intro hok hr)
  clear hok hr
  go_enter Tryz.func20, Tryz.ntmps20
  go_wp2_with fail
  refine (valid_c s H.out.1).mono ?_
  rintro e w1 ⟨rfl, rfl⟩
  go_wp2_with fail
  refine (Tryz.strconv_Atoi_ok s (by omega) n H.out.2 w).mono ?_
  rintro e w1 ⟨rfl, hw⟩
  have hb : Below w.heap.size w w1 := by
    rcases hw with rfl | ⟨t, rfl⟩
    · exact Below.refl _ _
    · exact bytesWorld_below _ _ _
  have HB := Lib.hid hb
  clear hb hw
  by_cases hl : n < -4611686018427387904
  · have HI := Lib.hid (show inSm n = false from decide_eq_false (by omega))
    go_wp2
    go_ret2
    exact ⟨by rw [HR.out.2, HR.out.1, HI.out]; rfl, HB.out⟩
  · by_cases hg : 4611686018427387904 < n
    · have HI := Lib.hid (show inSm n = false from decide_eq_false (by omega))
      go_wp2
      go_ret2
      exact ⟨by rw [HR.out.2, HR.out.1, HI.out]; rfl, HB.out⟩
    · have HI := Lib.hid (show inSm n = true from decide_eq_true (by omega))
      go_wp2
      go_ret2
      exact ⟨by rw [HR.out.2, HR.out.1, HI.out, if_pos rfl]; rfl, HB.out⟩
theorem small_tot (s : ByteArray) : ∃ k ok, (∀ w, ErrAt w → Calls Tryz.prog 20 #[.string s] w fun e w' => e = .returned (.tuple #[.int .i64 k, .bool ok]) ∧ Below w.heap.size w w') ∧
    (∀ w, Calls Tryz.prog 21 #[.string s] w fun e w' => e = .returned (.tuple #[.int .i64 k, .bool ok]) ∧ Below w.heap.size w w') := by
  rcases Bool.eq_false_or_eq_true (vld s.data.toList) with h | h
  · obtain ⟨n, hs, hd⟩ := itoa_of_vld h
    by_cases hn : -9223372036854775808 ≤ n ∧ n ≤ 9223372036854775807
    · exact ⟨_, _, fun w _ => small_near hs hn.1 hn.2, fun w => rsmall_ok s hs hd⟩
    · have h2 := fun w => rsmall_ok (w := w) s hs hd
      rw [show inSm n = false from decide_eq_false (by omega)] at h2
      exact ⟨_, _, fun w he => small_far he s hs hd (by omega), h2⟩
  · exact ⟨_, _, fun w _ => small_bad s h, fun w => rsmall_bad s h⟩
end Go.Proofs.YthibdbpgllhcpaaGreatDoor
