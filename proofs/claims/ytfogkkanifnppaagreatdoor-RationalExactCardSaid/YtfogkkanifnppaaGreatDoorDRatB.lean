/- The reference's functions of texts of fractions, for any texts. -/
import Derived.Test.YtfogkkanifnppaaGreatDoorDRat
import Derived.Test.YtfogkkanifnppaaGreatDoorQLong
namespace Go.Proofs.YtfogkkanifnppaaGreatDoor
open Go Go.RowKit
theorem rmake_any {w : World} (n : Int) (h1 : -9223372036854775808 ≤ n) (h2 : n ≤ 9223372036854775807) :
    Calls Tryz.prog 22 #[.int .i64 n] w fun e w' => e = .returned (.string ⟨(Lib.itoa n).toArray⟩) ∧ Below w.heap.size w w' := by
  have hnb : n.natAbs < D.B ^ 3 := by
    have : 9223372036854775808 < D.B ^ 3 := by rw [D.B_eq]; decide
    omega
  obtain ⟨a, ha⟩ : ∃ a, a = decide (n < 0) := ⟨_, rfl⟩
  have H := Lib.hid (And.intro ha hnb)
  clear ha hnb
  go_enter Tryz.func22, Tryz.ntmps22
  go_wp2_with fail
  refine (rof_any n h1 h2).mono ?_
  rw [← H.out.1]
  rintro e w1 ⟨u, rfl, hu, hb1⟩
  have H1 := Lib.hid (And.intro (show DBig w1 (.agg #[.bool a, u]) n by rw [H.out.1]; exact hu.big) hb1)
  clear hu hb1
  go_wp2_with fail
  refine (rtext_any H1.out.1 H.out.2 (by omega)).mono ?_
  rintro e w2 ⟨rfl, hb2⟩
  have H2 := Lib.hid (H1.out.2.trans (hb2.mono H1.out.2.size))
  clear hb2
  go_wp2
  go_ret
  exact ⟨rfl, H2.out⟩
theorem cmp_sgn2 (x y : Rat) : cmpI (x.num * y.den) (y.num * x.den) = sgn (x - y).num := by
  have h := F.cmp_cross x y
  unfold cmpI sgn
  by_cases h1 : x.num * y.den < y.num * x.den
  · rw [if_pos h1, if_pos (h.1.2 h1)]
  · rw [if_neg h1, if_neg (fun e => h1 (h.1.1 e))]
    by_cases h2 : y.num * x.den < x.num * y.den
    · rw [if_pos h2, if_pos (h.2.2 h2)]
    · rw [if_neg h2, if_neg (fun e => h2 (h.2.1 e))]

theorem rtx_len {s : ByteArray} {x : Rat} (h : RatIs s.data.toList x) : ¬ 802 < s.size := by
  have h1 : s.size = s.data.toList.length := by simp
  rw [h1, h.1]
  have h2 := itoa_len x.num
  have h3 := Lib.decDigits_length x.den
  have h4 := h.2.1
  have h5 := h.2.2
  by_cases hd : x.den = 1
  · rw [rtx_one hd]; omega
  · rw [rtx_bar hd, T.itoa_nonneg (show ¬ ((x.den : Nat) : Int) < 0 by omega), Int.natAbs_natCast, List.length_append, List.length_cons, h3]; omega
theorem dparts_any {w : World} (s : ByteArray) {r : Option Rat} (hs : Short s) (hr : Rd s r) :
    Calls Tryz.prog 32 #[.string s] w fun e w' => e = .returned (qparts r) ∧ Below w.heap.size w w' := by
  cases r with
  | none =>
    rcases hr with ⟨a, b, k, hc, hv⟩ | ⟨n, b, hc, hn, hv⟩ | ⟨n, d, hc, hn, hd, h2⟩ | ⟨n, d, hc, hn, hd, h2, hg⟩
    · exact dparts1 s (sa := ⟨a.toArray⟩) (sb := ⟨b.toArray⟩) hs (by rw [toArr, toArr]; exact hc) (by rw [toArr]; exact hv)
    · exact dparts2 s (sa := ⟨(Lib.itoa n).toArray⟩) (sb := ⟨b.toArray⟩) hs (by rw [toArr, toArr]; exact hc) (by rw [toArr]; exact vld_itoa hn) (by rw [toArr]; exact hv)
    · exact dparts3 s (sa := ⟨(Lib.itoa n).toArray⟩) (sb := ⟨(Lib.itoa d).toArray⟩) hs (by rw [toArr, toArr]; exact hc) (toArr _) (toArr _) hn hd h2
    · refine (dparts4 s (sa := ⟨(Lib.itoa n).toArray⟩) (sb := ⟨(Lib.itoa d).toArray⟩) hs (by rw [toArr, toArr]; exact hc) (toArr _) (toArr _) hn hd h2).mono ?_
      rintro e w' ⟨he, hb⟩
      rw [if_pos (.inr hg)] at he
      exact ⟨he, hb⟩
  | some x =>
    have h' : RatIs s.data.toList x := hr
    obtain ⟨sb, k, hc, hk⟩ := cut_rd h'
    rcases hk with ⟨rfl, hd, hb⟩ | ⟨rfl, hd, hb⟩
    · refine (dparts5 s hs hc (toArr _) h'.2.1 (rtx_len h')).mono ?_
      rintro e w' ⟨he, hb⟩
      refine ⟨he.trans ?_, hb⟩
      show _ = Ending.returned (.tuple #[.string ⟨(Lib.itoa x.num).toArray⟩, .string ⟨(Lib.itoa (x.den : Int)).toArray⟩, .bool true])
      rw [hd, itoa_one]
    · subst hb
      have hg : Nat.gcd x.num.natAbs ((x.den : Int)).natAbs = 1 := by rw [Int.natAbs_natCast]; exact x.reduced
      refine (dparts4 s hs hc (toArr _) (toArr _) h'.2.1 (by rw [Int.natAbs_natCast]; exact h'.2.2) (by omega)).mono ?_
      rintro e w' ⟨he, hb⟩
      rw [if_neg (by rintro (h | h); exact rtx_len h' h; exact h hg)] at he
      exact ⟨he, hb⟩
theorem qparts_shape (r : Option Rat) : ∃ a b : ByteArray, qparts r = .tuple #[.string a, .string b, .bool r.isSome] := by
  cases r
  · exact ⟨_, _, rfl⟩
  · exact ⟨_, _, rfl⟩
set_option maxHeartbeats 1600000 in
set_option maxRecDepth 100000 in
theorem dvalid_any {w : World} (s : ByteArray) {r : Option Rat} (hs : Short s) (hr : Rd s r) :
    Calls Tryz.prog 35 #[.string s] w fun e w' => e = .returned (.bool r.isSome) ∧ Below w.heap.size w w' := by
  obtain ⟨a, b, hq⟩ := qparts_shape r
  have H := Lib.hid (And.intro hs (And.intro hr hq))
  clear hs hr hq
  go_enter Tryz.func35, Tryz.ntmps35
  go_wp2_with fail
  refine (dparts_any s H.out.1 H.out.2.1).mono ?_
  rw [H.out.2.2]
  rintro e w1 ⟨rfl, hb⟩
  have HB := Lib.hid hb
  clear hb
  go_wp2
  go_ret
  exact ⟨rfl, HB.out⟩
set_option maxHeartbeats 1600000 in
set_option maxRecDepth 100000 in
theorem dratread_any {w : World} (s : ByteArray) {x : Rat} (hs : Short s) (hr : Rd s (some x)) :
    Calls Tryz.prog 87 #[.string s] w fun e w' => ∃ v, e = .returned v ∧ IsFrac w' v x ∧ Below w.heap.size w w' := by
  have h' : RatIs s.data.toList x := hr
  obtain ⟨sb, k, hc, hk⟩ := cut_rd h'
  obtain ⟨sa, hsa⟩ : ∃ sa : ByteArray, sa = ⟨(Lib.itoa x.num).toArray⟩ := ⟨_, rfl⟩
  rw [← hsa] at hc
  obtain ⟨sd, hsd⟩ : ∃ sd : ByteArray, sd = if k = true then sb else ⟨#[49]⟩ := ⟨_, rfl⟩
  have hd : sd.data.toList = Lib.itoa (x.den : Int) := by
    rcases hk with ⟨rfl, hd, hb⟩ | ⟨rfl, hd, hb⟩
    · rw [hsd, hd, itoa_one]; rfl
    · rw [hsd, hb]; rfl
  have H := Lib.hid (And.intro hs (And.intro hc (And.intro (show sa.data.toList = Lib.itoa x.num by rw [hsa]) (And.intro hd (And.intro h' hsd)))))
  clear hs hr hc hk hsa hsd hd h'
  go_enter Tryz.func87, Tryz.ntmps87
  go_upto_region 1 with fail
  have hP := (DPs.start w).newRhole rfl
  generalize w.alloc (.cells #[.bool false, .slice none 0 0, .bool false, .slice none 0 0] 68) = w0 at *
  go_wp2_with fail
  refine (split_any s H.out.1).mono ?_
  rw [dsplit_eq H.out.2.1, ← H.out.2.2.2.2.2]
  rintro e w1 ⟨rfl, hb⟩
  have H1 := Lib.hid (hP.next hb)
  clear hb hP
  go_wp2_with fail
  refine (dread_any sa H.out.2.2.1 H.out.2.2.2.2.1.2.1).mono ?_
  rintro e w2 ⟨v, rfl, hv, hb⟩
  obtain ⟨s2, A2, l2, k2, rfl⟩ := hv.form
  have H2 := Lib.hid (And.intro hv (H1.out.next hb))
  clear hv hb
  go_wp2_with fail
  refine (dread_any sd H.out.2.2.2.1 (by rw [Int.natAbs_natCast]; exact H.out.2.2.2.2.1.2.2)).mono ?_
  rintro e w3 ⟨v, rfl, hv, hb⟩
  obtain ⟨s3, A3, l3, k3, rfl⟩ := hv.form
  have hP3 := H2.out.2.next hb
  have hu := IsFrac.mk (H2.out.1.below hb (Nat.le_refl _)) hv
  clear hv hb
  obtain ⟨m0, m1, m2, m3, d0, d1, d2, d3, f0, f1, f2, f3⟩ := hP3.rhole 0 rfl
  have HV := Lib.hid (And.intro hu hP3)
  clear hu hP3
  go_wp2
  have hF := HV.out.2.rstored 0 rfl HV.out.1
  rw [show (((w3.setCell ⟨w.heap.size, 0, none⟩ (.bool s2)).setCell ⟨w.heap.size, 1, none⟩ (.slice A2 l2 k2)).setCell ⟨w.heap.size, 2, none⟩ (.bool s3)).setCell ⟨w.heap.size, 3, none⟩ (.slice A3 l3 k3) = stFrac w3 w.heap.size s2 A2 l2 k2 s3 A3 l3 k3 from rfl]
  generalize stFrac w3 w.heap.size s2 A2 l2 k2 s3 A3 l3 k3 = W3 at *
  obtain ⟨z0, z1, z2, z3, z4, z5⟩ := hF
  exact bodyPost_ret (v := .agg #[.bool s2, .slice A2 l2 k2, .bool s3, .slice A3 l3 k3]) (by simp [results, Tryz.results87, go_sem, z0, z1, z2, z3]) rfl ⟨_, rfl, z4, z5.below⟩
theorem rd_dlt {s : ByteArray} {x : Rat} (h : Rd s (some x)) : F.Lt (D.B ^ 45) x := by
  have h' : RatIs s.data.toList x := h
  exact ⟨lt_dten _ h'.2.1, lt_dten _ h'.2.2⟩
theorem D45 : D.B ^ 45 * D.B ^ 45 ≤ D.B ^ 100 ∧ 2 * (D.B ^ 45 * D.B ^ 45) ≤ D.B ^ 100 := by
  have h1 : D.B ^ 45 * D.B ^ 45 = D.B ^ 90 := by rw [← Nat.pow_add]
  have h2 : 2 * D.B ^ 90 ≤ D.B ^ 91 := by
    rw [Nat.pow_succ (n := D.B) (m := 90), Nat.mul_comm]
    exact Nat.mul_le_mul_left _ (by have := D.B_one; omega)
  rw [h1]
  exact ⟨D.pow_mono (by omega), Nat.le_trans h2 (D.pow_mono (by omega))⟩
set_option maxHeartbeats 1600000 in
set_option maxRecDepth 100000 in
theorem radd02_any {w : World} (s t : ByteArray) {r q : Option Rat} (hs : Short s) (ht : Short t) (hr : Rd s r) (hq : Rd t q) :
    Calls Tryz.prog 40 #[.string s, .string t] w fun e w' => e = .returned (qres (· + ·) r q) ∧ Below w.heap.size w w' := by
  have H := Lib.hid (And.intro hs (And.intro ht (And.intro hr hq)))
  clear hs ht hr hq
  go_enter Tryz.func40, Tryz.ntmps40
  go_wp2_with fail
  refine (dvalid_any s H.out.1 H.out.2.2.1).mono ?_
  rintro e w1 ⟨rfl, hb⟩
  have H1 := Lib.hid hb
  clear hb
  cases r with
  | none =>
    go_wp2
    go_ret2
    exact ⟨rfl, H1.out⟩
  | some x =>
    go_wp2_with fail
    refine (dvalid_any t H.out.2.1 H.out.2.2.2).mono ?_
    rintro e w2 ⟨rfl, hb⟩
    have H2 := Lib.hid (H1.out.trans (hb.mono H1.out.size))
    clear hb
    cases q with
    | none =>
      go_wp2
      go_ret2
      exact ⟨rfl, H2.out⟩
    | some y =>
      obtain ⟨o, c, hoc⟩ := qgive_two (x + y)
      have HOC := Lib.hid hoc
      clear hoc
      go_wp2_with fail
      refine (dratread_any (x := x) s H.out.1 H.out.2.2.1).mono ?_
      rintro e w3 ⟨v, rfl, hv, hb⟩
      have H3 := Lib.hid (And.intro hv (H2.out.trans (hb.mono H2.out.size)))
      clear hv hb
      go_wp2_with fail
      refine (dratread_any (x := y) t H.out.2.1 H.out.2.2.2).mono ?_
      rintro e w4 ⟨u, rfl, hu, hb⟩
      have H4 := Lib.hid (And.intro (H3.out.1.below hb) (And.intro hu (H3.out.2.trans (hb.mono H3.out.2.size))))
      clear hu hb
      go_wp2_with fail
      refine (dadd_any H4.out.1 H4.out.2.1 (rd_dlt H.out.2.2.1) (rd_dlt H.out.2.2.2) (by omega)).mono ?_
      rintro e w5 ⟨z, rfl, hz, hb⟩
      have H5 := Lib.hid (And.intro hz (H4.out.2.2.trans (hb.mono H4.out.2.2.size)))
      clear hz hb
      go_wp2_with fail
      refine (dgive_any (k := 100) H5.out.1 ((F.plus_lt (rd_dlt H.out.2.2.1) (rd_dlt H.out.2.2.2)).mono D45.2) (by omega)).mono ?_
      rw [HOC.out]
      rintro e w6 ⟨rfl, hb⟩
      have H6 := Lib.hid (H5.out.2.trans (hb.mono H5.out.2.size))
      clear hb
      go_wp2
      go_ret2
      exact ⟨by show _ = Ending.returned (qgive (x + y)); rw [HOC.out]; rfl, H6.out⟩
set_option maxHeartbeats 1600000 in
set_option maxRecDepth 100000 in
theorem rsub02_any {w : World} (s t : ByteArray) {r q : Option Rat} (hs : Short s) (ht : Short t) (hr : Rd s r) (hq : Rd t q) :
    Calls Tryz.prog 41 #[.string s, .string t] w fun e w' => e = .returned (qres (· - ·) r q) ∧ Below w.heap.size w w' := by
  have H := Lib.hid (And.intro hs (And.intro ht (And.intro hr hq)))
  clear hs ht hr hq
  go_enter Tryz.func41, Tryz.ntmps41
  go_wp2_with fail
  refine (dvalid_any s H.out.1 H.out.2.2.1).mono ?_
  rintro e w1 ⟨rfl, hb⟩
  have H1 := Lib.hid hb
  clear hb
  cases r with
  | none =>
    go_wp2
    go_ret2
    exact ⟨rfl, H1.out⟩
  | some x =>
    go_wp2_with fail
    refine (dvalid_any t H.out.2.1 H.out.2.2.2).mono ?_
    rintro e w2 ⟨rfl, hb⟩
    have H2 := Lib.hid (H1.out.trans (hb.mono H1.out.size))
    clear hb
    cases q with
    | none =>
      go_wp2
      go_ret2
      exact ⟨rfl, H2.out⟩
    | some y =>
      obtain ⟨o, c, hoc⟩ := qgive_two (x - y)
      have HOC := Lib.hid hoc
      clear hoc
      go_wp2_with fail
      refine (dratread_any (x := x) s H.out.1 H.out.2.2.1).mono ?_
      rintro e w3 ⟨v, rfl, hv, hb⟩
      have H3 := Lib.hid (And.intro hv (H2.out.trans (hb.mono H2.out.size)))
      clear hv hb
      go_wp2_with fail
      refine (dratread_any (x := y) t H.out.2.1 H.out.2.2.2).mono ?_
      rintro e w4 ⟨u, rfl, hu, hb⟩
      have H4 := Lib.hid (And.intro (H3.out.1.below hb) (And.intro hu (H3.out.2.trans (hb.mono H3.out.2.size))))
      clear hu hb
      go_wp2_with fail
      refine (dsub_any H4.out.1 H4.out.2.1 (rd_dlt H.out.2.2.1) (rd_dlt H.out.2.2.2) (by omega)).mono ?_
      rintro e w5 ⟨z, rfl, hz, hb⟩
      have H5 := Lib.hid (And.intro hz (H4.out.2.2.trans (hb.mono H4.out.2.2.size)))
      clear hz hb
      go_wp2_with fail
      refine (dgive_any (k := 100) H5.out.1 ((F.sub_lt (rd_dlt H.out.2.2.1) (rd_dlt H.out.2.2.2)).mono D45.2) (by omega)).mono ?_
      rw [HOC.out]
      rintro e w6 ⟨rfl, hb⟩
      have H6 := Lib.hid (H5.out.2.trans (hb.mono H5.out.2.size))
      clear hb
      go_wp2
      go_ret2
      exact ⟨by show _ = Ending.returned (qgive (x - y)); rw [HOC.out]; rfl, H6.out⟩
set_option maxHeartbeats 1600000 in
set_option maxRecDepth 100000 in
theorem rmul02_any {w : World} (s t : ByteArray) {r q : Option Rat} (hs : Short s) (ht : Short t) (hr : Rd s r) (hq : Rd t q) :
    Calls Tryz.prog 42 #[.string s, .string t] w fun e w' => e = .returned (qres (· * ·) r q) ∧ Below w.heap.size w w' := by
  have H := Lib.hid (And.intro hs (And.intro ht (And.intro hr hq)))
  clear hs ht hr hq
  go_enter Tryz.func42, Tryz.ntmps42
  go_wp2_with fail
  refine (dvalid_any s H.out.1 H.out.2.2.1).mono ?_
  rintro e w1 ⟨rfl, hb⟩
  have H1 := Lib.hid hb
  clear hb
  cases r with
  | none =>
    go_wp2
    go_ret2
    exact ⟨rfl, H1.out⟩
  | some x =>
    go_wp2_with fail
    refine (dvalid_any t H.out.2.1 H.out.2.2.2).mono ?_
    rintro e w2 ⟨rfl, hb⟩
    have H2 := Lib.hid (H1.out.trans (hb.mono H1.out.size))
    clear hb
    cases q with
    | none =>
      go_wp2
      go_ret2
      exact ⟨rfl, H2.out⟩
    | some y =>
      obtain ⟨o, c, hoc⟩ := qgive_two (x * y)
      have HOC := Lib.hid hoc
      clear hoc
      go_wp2_with fail
      refine (dratread_any (x := x) s H.out.1 H.out.2.2.1).mono ?_
      rintro e w3 ⟨v, rfl, hv, hb⟩
      have H3 := Lib.hid (And.intro hv (H2.out.trans (hb.mono H2.out.size)))
      clear hv hb
      go_wp2_with fail
      refine (dratread_any (x := y) t H.out.2.1 H.out.2.2.2).mono ?_
      rintro e w4 ⟨u, rfl, hu, hb⟩
      have H4 := Lib.hid (And.intro (H3.out.1.below hb) (And.intro hu (H3.out.2.trans (hb.mono H3.out.2.size))))
      clear hu hb
      go_wp2_with fail
      refine (dmul_any H4.out.1 H4.out.2.1 (rd_dlt H.out.2.2.1) (rd_dlt H.out.2.2.2) (by omega)).mono ?_
      rintro e w5 ⟨z, rfl, hz, hb⟩
      have H5 := Lib.hid (And.intro hz (H4.out.2.2.trans (hb.mono H4.out.2.2.size)))
      clear hz hb
      go_wp2_with fail
      refine (dgive_any (k := 100) H5.out.1 ((F.times_lt (rd_dlt H.out.2.2.1) (rd_dlt H.out.2.2.2)).mono D45.1) (by omega)).mono ?_
      rw [HOC.out]
      rintro e w6 ⟨rfl, hb⟩
      have H6 := Lib.hid (H5.out.2.trans (hb.mono H5.out.2.size))
      clear hb
      go_wp2
      go_ret2
      exact ⟨by show _ = Ending.returned (qgive (x * y)); rw [HOC.out]; rfl, H6.out⟩
set_option maxHeartbeats 1600000 in
set_option maxRecDepth 100000 in
theorem rdiv02_any {w : World} (s t : ByteArray) {r q : Option Rat} (hs : Short s) (ht : Short t) (hr : Rd s r) (hq : Rd t q) :
    Calls Tryz.prog 43 #[.string s, .string t] w fun e w' => e = .returned (qdivres r q) ∧ Below w.heap.size w w' := by
  have hz0 := rd_zero hq
  have H := Lib.hid (And.intro hs (And.intro ht (And.intro hr hq)))
  clear hs ht hr hq
  go_enter Tryz.func43, Tryz.ntmps43
  go_wp2_with fail
  refine (dvalid_any s H.out.1 H.out.2.2.1).mono ?_
  rintro e w1 ⟨rfl, hb⟩
  have H1 := Lib.hid hb
  clear hb
  cases r with
  | none =>
    clear hz0
    go_wp2
    go_ret2
    exact ⟨rfl, H1.out⟩
  | some x =>
    have HZ0 := Lib.hid hz0
    clear hz0
    go_wp2_with fail
    refine (dvalid_any t H.out.2.1 H.out.2.2.2).mono ?_
    rintro e w2 ⟨rfl, hb⟩
    have H2 := Lib.hid (H1.out.trans (hb.mono H1.out.size))
    clear hb
    cases q with
    | none =>
      go_wp2
      go_ret2
      exact ⟨rfl, H2.out⟩
    | some y =>
      by_cases h0 : y = 0
      · have hz : (t.toList == [48]) = true := by rw [HZ0.out]; exact decide_eq_true (by rw [h0])
        have HY := Lib.hid h0
        clear h0
        go_wp2
        go_ret2
        exact ⟨by rw [HY.out, qdivres_zero]; rfl, H2.out⟩
      · have hz : (t.toList == [48]) = false := by rw [HZ0.out]; exact decide_eq_false (by intro e; injection e with e; exact h0 e)
        have HY := Lib.hid h0
        clear h0
        obtain ⟨o, c, hoc⟩ := qgive_two (x / y)
        have HOC := Lib.hid hoc
        clear hoc
        go_wp2_with fail
        refine (dratread_any (x := x) s H.out.1 H.out.2.2.1).mono ?_
        rintro e w3 ⟨v, rfl, hv, hb⟩
        have H3 := Lib.hid (And.intro hv (H2.out.trans (hb.mono H2.out.size)))
        clear hv hb
        go_wp2_with fail
        refine (dratread_any (x := y) t H.out.2.1 H.out.2.2.2).mono ?_
        rintro e w4 ⟨u, rfl, hu, hb⟩
        have H4 := Lib.hid (And.intro (H3.out.1.below hb) (And.intro hu (H3.out.2.trans (hb.mono H3.out.2.size))))
        clear hu hb
        go_wp2_with fail
        refine (ddiv_any H4.out.1 H4.out.2.1 (rd_dlt H.out.2.2.1) (rd_dlt H.out.2.2.2) (by omega)).mono ?_
        rintro e w5 ⟨z, rfl, hz, hb⟩
        have H5 := Lib.hid (And.intro hz (H4.out.2.2.trans (hb.mono H4.out.2.2.size)))
        clear hz hb
        go_wp2_with fail
        refine (dgive_any (k := 100) H5.out.1 ((F.over_lt (rd_dlt H.out.2.2.1) (rd_dlt H.out.2.2.2) HY.out).mono D45.1) (by omega)).mono ?_
        rw [HOC.out]
        rintro e w6 ⟨rfl, hb⟩
        have H6 := Lib.hid (H5.out.2.trans (hb.mono H5.out.2.size))
        clear hb
        go_wp2
        go_ret2
        exact ⟨by
          show _ = Ending.returned (if y = 0 then (.tuple #[.string ⟨#[]⟩, .int .i64 4] : Value) else qgive (x / y))
          rw [if_neg HY.out, HOC.out]; rfl, H6.out⟩
set_option maxHeartbeats 1600000 in
set_option maxRecDepth 100000 in
theorem dfloor_any {w : World} (s : ByteArray) {r : Option Rat} (hs : Short s) (hr : Rd s r) :
    Calls Tryz.prog 33 #[.string s] w fun e w' => e = .returned (qfloor r) ∧ Below w.heap.size w w' := by
  have H := Lib.hid (And.intro hs hr)
  clear hs hr
  cases r with
  | none =>
    go_enter Tryz.func33, Tryz.ntmps33
    go_wp2_with fail
    refine (dparts_any s H.out.1 H.out.2).mono ?_
    rintro e w1 ⟨he, hb⟩
    have he2 : e = .returned (.tuple #[.string ⟨#[]⟩, .string ⟨#[]⟩, .bool false]) := he
    subst he2
    have HB := Lib.hid hb
    clear hb he
    go_wp2
    go_ret2
    exact ⟨rfl, HB.out⟩
  | some x =>
    have h' : RatIs s.data.toList x := H.out.2
    have hd0 : (x.den : Int) ≠ 0 := by have := x.den_pos; omega
    obtain ⟨sa, hsa⟩ : ∃ sa : ByteArray, sa = ⟨(Lib.itoa x.num).toArray⟩ := ⟨_, rfl⟩
    obtain ⟨sb, hsb⟩ : ∃ sb : ByteArray, sb = ⟨(Lib.itoa (x.den : Int)).toArray⟩ := ⟨_, rfl⟩
    have ha : sa.data.toList = Lib.itoa x.num := by rw [hsa]
    have hb : sb.data.toList = Lib.itoa (x.den : Int) := by rw [hsb]
    have HD := Lib.hid (And.intro h' (And.intro hd0 (And.intro ha (And.intro hb (And.intro hsa hsb)))))
    clear h' hd0 ha hb hsa hsb
    go_enter Tryz.func33, Tryz.ntmps33
    go_wp2_with fail
    refine (dparts_any s H.out.1 H.out.2).mono ?_
    rintro e w1 ⟨he, hb⟩
    have he2 : e = .returned (.tuple #[.string sa, .string sb, .bool true]) := by rw [he, HD.out.2.2.2.2.1, HD.out.2.2.2.2.2]; rfl
    subst he2
    have HB := Lib.hid hb
    clear hb he
    go_wp2_with fail
    refine (rdiv_ok sa sb HD.out.2.2.1 HD.out.2.2.2.1 HD.out.1.2.1 (by rw [Int.natAbs_natCast]; exact HD.out.1.2.2) HD.out.2.1).mono ?_
    rintro e w2 ⟨rfl, hb⟩
    have H2 := Lib.hid (HB.out.trans (hb.mono HB.out.size))
    clear hb
    go_wp2
    go_ret2
    exact ⟨rfl, H2.out⟩
set_option maxHeartbeats 1600000 in
set_option maxRecDepth 100000 in
theorem dzero_any {w : World} {v : Value} {x : Rat} (h : IsFrac w v x) :
    Calls Tryz.prog 128 #[v] w fun e w' => e = .returned (.bool (decide (x.num = 0))) ∧ Below w.heap.size w w' := by
  obtain ⟨s, A, l, c, t, A', l', c', rfl⟩ := h.shape
  have hlen := h.parts.1.len
  have hl : ((l : Int) == 0) = decide (x.num = 0) := by
    by_cases hz : x.num = 0
    · rw [decide_eq_true hz, beq_iff_eq]; have := hlen.1.2 hz; omega
    · rw [decide_eq_false hz, beq_eq_false_iff_ne]; intro e; exact hz (hlen.1.1 (by omega))
  have HL := Lib.hid hl
  clear h hlen hl
  go_enter Tryz.func128, Tryz.ntmps128
  go_wp2
  go_ret
  exact ⟨by rw [← HL.out]; rfl, (Below.refl _ _).alloc (Nat.le_refl _) _⟩
set_option maxHeartbeats 1600000 in
set_option maxRecDepth 100000 in
theorem dfsign_any {w : World} {v : Value} {x : Rat} (h : IsFrac w v x) :
    Calls Tryz.prog 89 #[v] w fun e w' => e = .returned (.int .i64 (sgn x.num)) ∧ Below w.heap.size w w' := by
  obtain ⟨s, A, l, c, t, A', l', c', rfl⟩ := h.shape
  have hs := h.parts.1.neg
  have hA := (Below.refl w.heap.size w).alloc (Nat.le_refl _) (.cells #[.bool s, .slice A l c, .bool t, .slice A' l' c'] 68)
  have H := Lib.hid (And.intro (h.below hA) hA)
  clear h hA
  by_cases hn : x.num < 0
  · rw [decide_eq_true hn] at hs
    have HN := Lib.hid (show sgn x.num = -1 by unfold sgn; rw [if_pos hn])
    clear hn
    subst hs
    go_enter Tryz.func89, Tryz.ntmps89
    go_wp2
    go_ret
    exact ⟨by rw [HN.out]; rfl, H.out.2⟩
  · rw [decide_eq_false hn] at hs
    subst hs
    obtain ⟨z, hz⟩ : ∃ z, z = decide (x.num = 0) := ⟨_, rfl⟩
    have HN := Lib.hid (And.intro hn hz)
    clear hn hz
    go_enter Tryz.func89, Tryz.ntmps89
    go_wp2_with fail
    refine (dzero_any H.out.1).mono ?_
    rw [← HN.out.2]
    rintro e w1 ⟨rfl, hb⟩
    have HB := Lib.hid (H.out.2.trans (hb.mono H.out.2.size))
    clear hb
    rcases Bool.eq_false_or_eq_true z with h1 | h1
    · subst h1
      go_wp2
      go_ret
      exact ⟨by rw [show sgn x.num = 0 by unfold sgn; have := of_decide_eq_true HN.out.2.symm; rw [if_neg (Int.not_lt.2 HN.out.1), if_neg (by omega)]]; rfl, HB.out⟩
    · subst h1
      go_wp2
      go_ret
      exact ⟨by rw [show sgn x.num = 1 by unfold sgn; have h2 := of_decide_eq_false HN.out.2.symm; have h3 := HN.out.1; rw [if_neg (Int.not_lt.2 h3), if_pos (by omega)]]; rfl, HB.out⟩
set_option maxHeartbeats 1600000 in
set_option maxRecDepth 100000 in
theorem dsign_r {w : World} (s : ByteArray) {r : Option Rat} (hs : Short s) (hr : Rd s r) :
    Calls Tryz.prog 38 #[.string s] w fun e w' => e = .returned (.int .i64 (sgn (r.getD 0).num)) ∧ Below w.heap.size w w' := by
  have H := Lib.hid (And.intro hs hr)
  clear hs hr
  go_enter Tryz.func38, Tryz.ntmps38
  go_wp2_with fail
  refine (dvalid_any s H.out.1 H.out.2).mono ?_
  rintro e w1 ⟨rfl, hb⟩
  have H1 := Lib.hid hb
  clear hb
  cases r with
  | none =>
    go_wp2
    go_ret
    exact ⟨rfl, H1.out⟩
  | some x =>
    go_wp2_with fail
    refine (dratread_any (x := x) s H.out.1 H.out.2).mono ?_
    rintro e w2 ⟨v, rfl, hv, hb⟩
    have H2 := Lib.hid (And.intro hv (H1.out.trans (hb.mono H1.out.size)))
    clear hv hb
    go_wp2_with fail
    refine (dfsign_any H2.out.1).mono ?_
    rintro e w3 ⟨rfl, hb⟩
    have H3 := Lib.hid (H2.out.2.trans (hb.mono H2.out.2.size))
    clear hb
    go_wp2
    go_ret
    exact ⟨rfl, H3.out⟩
set_option maxHeartbeats 1600000 in
set_option maxRecDepth 100000 in
theorem dcompare_r {w : World} (s t : ByteArray) {r q : Option Rat} (hs : Short s) (ht : Short t) (hr : Rd s r) (hq : Rd t q) :
    Calls Tryz.prog 39 #[.string s, .string t] w fun e w' => e = .returned (.int .i64 (qcmp r q)) ∧ Below w.heap.size w w' := by
  have H := Lib.hid (And.intro hs (And.intro ht (And.intro hr hq)))
  clear hs ht hr hq
  go_enter Tryz.func39, Tryz.ntmps39
  go_wp2_with fail
  refine (dvalid_any s H.out.1 H.out.2.2.1).mono ?_
  rintro e w1 ⟨rfl, hb⟩
  have H1 := Lib.hid hb
  clear hb
  cases r with
  | none =>
    go_wp2
    go_ret
    exact ⟨rfl, H1.out⟩
  | some x =>
    go_wp2_with fail
    refine (dvalid_any t H.out.2.1 H.out.2.2.2).mono ?_
    rintro e w2 ⟨rfl, hb⟩
    have H2 := Lib.hid (H1.out.trans (hb.mono H1.out.size))
    clear hb
    cases q with
    | none =>
      go_wp2
      go_ret
      exact ⟨rfl, H2.out⟩
    | some y =>
      go_wp2_with fail
      refine (dratread_any (x := x) s H.out.1 H.out.2.2.1).mono ?_
      rintro e w3 ⟨v, rfl, hv, hb⟩
      have H3 := Lib.hid (And.intro hv (H2.out.trans (hb.mono H2.out.size)))
      clear hv hb
      go_wp2_with fail
      refine (dratread_any (x := y) t H.out.2.1 H.out.2.2.2).mono ?_
      rintro e w4 ⟨u, rfl, hu, hb⟩
      have H4 := Lib.hid (And.intro (H3.out.1.below hb) (And.intro hu (H3.out.2.trans (hb.mono H3.out.2.size))))
      clear hu hb
      go_wp2_with fail
      refine (dsub_any H4.out.1 H4.out.2.1 (rd_dlt H.out.2.2.1) (rd_dlt H.out.2.2.2) (by omega)).mono ?_
      rintro e w5 ⟨z, rfl, hz, hb⟩
      have H5 := Lib.hid (And.intro hz (H4.out.2.2.trans (hb.mono H4.out.2.2.size)))
      clear hz hb
      go_wp2_with fail
      refine (dfsign_any H5.out.1).mono ?_
      rintro e w6 ⟨rfl, hb⟩
      have H6 := Lib.hid (H5.out.2.trans (hb.mono H5.out.2.size))
      clear hb
      go_wp2
      go_ret
      exact ⟨by rw [show qcmp (some x) (some y) = sgn (x - y).num from cmp_sgn2 x y]; rfl, H6.out⟩
set_option maxHeartbeats 1600000 in
set_option maxRecDepth 100000 in
theorem dmake_ok {w : World} (s t : ByteArray) {p q : Int} (hs : s.data.toList = Lib.itoa p) (ht : t.data.toList = Lib.itoa q) (hp : Lib.nDigits p.natAbs ≤ 400) (hq : Lib.nDigits q.natAbs ≤ 400) :
    Calls Tryz.prog 31 #[.string s, .string t] w fun e w' => e = .returned (qmake p q) ∧ Below w.heap.size w w' := by
  have v1 : vld s.data.toList = true := by rw [hs]; exact vld_itoa hp
  have v2 : vld t.data.toList = true := by rw [ht]; exact vld_itoa hq
  have hz0 := itoa_txt ht 0 [48] (by decide +kernel)
  have H := Lib.hid (And.intro hs (And.intro ht (And.intro hp (And.intro hq (And.intro v1 v2)))))
  clear hs ht hp hq v1 v2
  by_cases h0 : q = 0
  · rw [decide_eq_true h0] at hz0
    have HZ := Lib.hid (show qmake p q = .tuple #[.string ⟨#[]⟩, .int .i64 4] from if_pos h0)
    clear h0
    go_enter Tryz.func31, Tryz.ntmps31
    go_wp2_with fail
    refine (rvalid_v s H.out.2.2.2.2.1).mono ?_
    rintro e w1 ⟨rfl, rfl⟩
    go_wp2_with fail
    refine (rvalid_v t H.out.2.2.2.2.2).mono ?_
    rintro e w1 ⟨rfl, rfl⟩
    go_wp2
    go_ret2
    exact ⟨by rw [HZ.out]; rfl, Below.refl _ _⟩
  · rw [decide_eq_false h0] at hz0
    obtain ⟨o, c, hoc⟩ := qgive_two (Rat.divInt p q)
    have HZ := Lib.hid (And.intro (show qmake p q = qgive (Rat.divInt p q) from if_neg h0) (And.intro hoc h0))
    clear h0 hoc
    go_enter Tryz.func31, Tryz.ntmps31
    go_wp2_with fail
    refine (rvalid_v s H.out.2.2.2.2.1).mono ?_
    rintro e w1 ⟨rfl, rfl⟩
    go_wp2_with fail
    refine (rvalid_v t H.out.2.2.2.2.2).mono ?_
    rintro e w1 ⟨rfl, rfl⟩
    go_wp2_with fail
    refine (dread_any s H.out.1 H.out.2.2.1).mono ?_
    rintro e w1 ⟨v, rfl, hv, hb⟩
    have H1 := Lib.hid (And.intro hv hb)
    clear hv hb
    go_wp2_with fail
    refine (dread_any t H.out.2.1 H.out.2.2.2.1).mono ?_
    rintro e w2 ⟨u, rfl, hu, hb⟩
    have H2 := Lib.hid (And.intro (H1.out.1.below hb (Nat.le_refl _)) (And.intro hu (H1.out.2.trans (hb.mono H1.out.2.size))))
    clear hu hb
    go_wp2_with fail
    refine (dnew_any (k := 45) H2.out.1 H2.out.2.1 (lt_dten _ H.out.2.2.1) (lt_dten _ H.out.2.2.2.1) (by omega)).mono ?_
    rintro e w3 ⟨z, rfl, hz, hb⟩
    have H3 := Lib.hid (And.intro hz (H2.out.2.2.trans (hb.mono H2.out.2.2.size)))
    clear hz hb
    go_wp2_with fail
    refine (dgive_any (k := 45) H3.out.1 (divInt_lt (lt_dten _ H.out.2.2.1) (lt_dten _ H.out.2.2.2.1) HZ.out.2.2) (by omega)).mono ?_
    rw [HZ.out.2.1]
    rintro e w4 ⟨rfl, hb⟩
    have H4 := Lib.hid (H3.out.2.trans (hb.mono H3.out.2.size))
    clear hb
    go_wp2
    go_ret2
    exact ⟨by rw [HZ.out.1, HZ.out.2.1]; rfl, H4.out⟩
theorem dwhole_any {w : World} (n : Int) (h0 : -9223372036854775808 ≤ n) (h1 : n ≤ 9223372036854775807) :
    Calls Tryz.prog 27 #[.int .i64 n] w fun e w' => e = .returned (.string ⟨(Lib.itoa n).toArray⟩) ∧ Below w.heap.size w w' := by
  have H := Lib.hid (rmake_any (w := w) n h0 h1)
  clear h0 h1
  go_enter Tryz.func27, Tryz.ntmps27
  go_wp2_with fail
  refine H.out.mono ?_
  rintro e w' ⟨rfl, hb⟩
  go_wp2
  go_ret
  exact ⟨rfl, hb⟩
set_option maxHeartbeats 1600000 in
set_option maxRecDepth 100000 in
theorem dmake_bad {w : World} (s t : ByteArray) (h : (vld s.data.toList && vld t.data.toList) = false) :
    Calls Tryz.prog 31 #[.string s, .string t] w fun e w' => e = .returned (.tuple #[.string ⟨#[]⟩, .int .i64 1]) ∧ Below w.heap.size w w' := by
  have H := Lib.hid h
  clear h
  by_cases h1 : vld s.data.toList = true
  · have h2 : vld t.data.toList = false := by have := H.out; rw [h1, Bool.true_and] at this; exact this
    have HV := Lib.hid (And.intro h1 h2)
    clear h1 h2
    go_enter Tryz.func31, Tryz.ntmps31
    go_wp2_with fail
    refine (rvalid_v s HV.out.1).mono ?_
    rintro e w1 ⟨rfl, rfl⟩
    go_wp2_with fail
    refine (rvalid_v t HV.out.2).mono ?_
    rintro e w1 ⟨rfl, rfl⟩
    go_wp2
    go_ret2
    exact ⟨rfl, Below.refl _ _⟩
  · have h2 : vld s.data.toList = false := by simpa using h1
    have HV := Lib.hid h2
    clear h1 h2
    go_enter Tryz.func31, Tryz.ntmps31
    go_wp2_with fail
    refine (rvalid_v s HV.out).mono ?_
    rintro e w1 ⟨rfl, rfl⟩
    go_wp2
    go_ret2
    exact ⟨rfl, Below.refl _ _⟩
theorem valid_vv {w : World} (s : ByteArray) {b : Bool} (h : vld s.data.toList = b) : Calls Tryz.prog 77 #[.string s] w fun e w' => e = .returned (.bool b) ∧ w = w' := by subst h; exact valid_any s
set_option maxHeartbeats 1600000 in
set_option maxRecDepth 100000 in
theorem qmake_bad {w : World} (s t : ByteArray) (h : (vld s.data.toList && vld t.data.toList) = false) :
    Calls Tryz.prog 30 #[.string s, .string t] w fun e w' => e = .returned (.tuple #[.string ⟨#[]⟩, .int .i64 1]) ∧ Below w.heap.size w w' := by
  have H := Lib.hid h
  clear h
  by_cases h1 : vld s.data.toList = true
  · have h2 : vld t.data.toList = false := by have := H.out; rw [h1, Bool.true_and] at this; exact this
    have HV := Lib.hid (And.intro h1 h2)
    clear h1 h2
    go_enter Tryz.func30, Tryz.ntmps30
    go_wp2_with fail
    refine (valid_vv s HV.out.1).mono ?_
    rintro e w1 ⟨rfl, rfl⟩
    go_wp2_with fail
    refine (valid_vv t HV.out.2).mono ?_
    rintro e w1 ⟨rfl, rfl⟩
    go_wp2
    go_ret2
    exact ⟨rfl, Below.refl _ _⟩
  · have h2 : vld s.data.toList = false := by simpa using h1
    have HV := Lib.hid h2
    clear h1 h2
    go_enter Tryz.func30, Tryz.ntmps30
    go_wp2_with fail
    refine (valid_vv s HV.out).mono ?_
    rintro e w1 ⟨rfl, rfl⟩
    go_wp2
    go_ret2
    exact ⟨rfl, Below.refl _ _⟩
end Go.Proofs.YtfogkkanifnppaaGreatDoor
