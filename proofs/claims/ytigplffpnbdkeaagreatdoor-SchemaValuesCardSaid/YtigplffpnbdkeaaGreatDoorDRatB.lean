/- The reference's functions of texts of fractions, for any texts. -/
import Derived.Test.YtigplffpnbdkeaaGreatDoorDRat
import Derived.Test.YtigplffpnbdkeaaGreatDoorQLong
namespace Go.Proofs.YtigplffpnbdkeaaGreatDoor
open Go Go.RowKit
theorem rmake_any {w : World} (n : Int) (h1 : -9223372036854775808 ≤ n) (h2 : n ≤ 9223372036854775807) :
    Calls Tryz.prog 18 #[.int .i64 n] w fun e w' => e = .returned (.string ⟨(Lib.itoa n).toArray⟩) ∧ Below w.heap.size w w' := by
  have hnb : n.natAbs < D.B ^ 3 := by
    have : 9223372036854775808 < D.B ^ 3 := by rw [D.B_eq]; decide
    omega
  obtain ⟨a, ha⟩ : ∃ a, a = decide (n < 0) := ⟨_, rfl⟩
  have H := Lib.hid (And.intro ha hnb)
  clear ha hnb
  go_enter Tryz.func18, Tryz.ntmps18
  go_wp2_with fail
  refine (rof_any n h1 h2).mono ?_
  rw [← H.out.1]
  rintro e w1 ⟨u, rfl, hu, hb1⟩
  have H1 := Lib.hid (And.intro (show DBig w1 (.agg #[.bool a, u]) n by rw [H.out.1]; exact hu.big) hb1)
  clear hu hb1
  go_wp2_with fail
  refine (rtext_any H1.out.1 H.out.2 (by omega)).mono ?_
  rintro e w2 ⟨rfl, hb2⟩
  have H2 := Lib.hid (H1.out.2.trans (hb2.mono H1.out.2.size))
  clear hb2
  go_wp2
  go_ret
  exact ⟨rfl, H2.out⟩
theorem cmp_sgn2 (x y : Rat) : cmpI (x.num * y.den) (y.num * x.den) = sgn (x - y).num := by
  have h := F.cmp_cross x y
  unfold cmpI sgn
  by_cases h1 : x.num * y.den < y.num * x.den
  · rw [if_pos h1, if_pos (h.1.2 h1)]
  · rw [if_neg h1, if_neg (fun e => h1 (h.1.1 e))]
    by_cases h2 : y.num * x.den < x.num * y.den
    · rw [if_pos h2, if_pos (h.2.2 h2)]
    · rw [if_neg h2, if_neg (fun e => h2 (h.2.1 e))]

theorem rtx_len {s : ByteArray} {x : Rat} (h : RatIs s.data.toList x) : ¬ 802 < s.size := by
  have h1 : s.size = s.data.toList.length := by simp
  rw [h1, h.1]
  have h2 := itoa_len x.num
  have h3 := Lib.decDigits_length x.den
  have h4 := h.2.1
  have h5 := h.2.2
  by_cases hd : x.den = 1
  · rw [rtx_one hd]; omega
  · rw [rtx_bar hd, T.itoa_nonneg (show ¬ ((x.den : Nat) : Int) < 0 by omega), Int.natAbs_natCast, List.length_append, List.length_cons, h3]; omega
theorem dparts_any {w : World} (s : ByteArray) {r : Option Rat} (hs : Short s) (hr : Rd s r) :
    Calls Tryz.prog 20 #[.string s] w fun e w' => e = .returned (qparts r) ∧ Below w.heap.size w w' := by
  cases r with
  | none =>
    rcases hr with ⟨a, b, k, hc, hv⟩ | ⟨n, b, hc, hn, hv⟩ | ⟨n, d, hc, hn, hd, h2⟩ | ⟨n, d, hc, hn, hd, h2, hg⟩
    · exact dparts1 s (sa := ⟨a.toArray⟩) (sb := ⟨b.toArray⟩) hs (by rw [toArr, toArr]; exact hc) (by rw [toArr]; exact hv)
    · exact dparts2 s (sa := ⟨(Lib.itoa n).toArray⟩) (sb := ⟨b.toArray⟩) hs (by rw [toArr, toArr]; exact hc) (by rw [toArr]; exact vld_itoa hn) (by rw [toArr]; exact hv)
    · exact dparts3 s (sa := ⟨(Lib.itoa n).toArray⟩) (sb := ⟨(Lib.itoa d).toArray⟩) hs (by rw [toArr, toArr]; exact hc) (toArr _) (toArr _) hn hd h2
    · refine (dparts4 s (sa := ⟨(Lib.itoa n).toArray⟩) (sb := ⟨(Lib.itoa d).toArray⟩) hs (by rw [toArr, toArr]; exact hc) (toArr _) (toArr _) hn hd h2).mono ?_
      rintro e w' ⟨he, hb⟩
      rw [if_pos (.inr hg)] at he
      exact ⟨he, hb⟩
  | some x =>
    have h' : RatIs s.data.toList x := hr
    obtain ⟨sb, k, hc, hk⟩ := cut_rd h'
    rcases hk with ⟨rfl, hd, hb⟩ | ⟨rfl, hd, hb⟩
    · refine (dparts5 s hs hc (toArr _) h'.2.1 (rtx_len h')).mono ?_
      rintro e w' ⟨he, hb⟩
      refine ⟨he.trans ?_, hb⟩
      show _ = Ending.returned (.tuple #[.string ⟨(Lib.itoa x.num).toArray⟩, .string ⟨(Lib.itoa (x.den : Int)).toArray⟩, .bool true])
      rw [hd, itoa_one]
    · subst hb
      have hg : Nat.gcd x.num.natAbs ((x.den : Int)).natAbs = 1 := by rw [Int.natAbs_natCast]; exact x.reduced
      refine (dparts4 s hs hc (toArr _) (toArr _) h'.2.1 (by rw [Int.natAbs_natCast]; exact h'.2.2) (by omega)).mono ?_
      rintro e w' ⟨he, hb⟩
      rw [if_neg (by rintro (h | h); exact rtx_len h' h; exact h hg)] at he
      exact ⟨he, hb⟩
theorem qparts_shape (r : Option Rat) : ∃ a b : ByteArray, qparts r = .tuple #[.string a, .string b, .bool r.isSome] := by
  cases r
  · exact ⟨_, _, rfl⟩
  · exact ⟨_, _, rfl⟩
set_option maxHeartbeats 1600000 in
set_option maxRecDepth 100000 in
theorem dvalid_any {w : World} (s : ByteArray) {r : Option Rat} (hs : Short s) (hr : Rd s r) :
    Calls Tryz.prog 94 #[.string s] w fun e w' => e = .returned (.bool r.isSome) ∧ Below w.heap.size w w' := by
  obtain ⟨a, b, hq⟩ := qparts_shape r
  have H := Lib.hid (And.intro hs (And.intro hr hq))
  clear hs hr hq
  go_enter Tryz.func94, Tryz.ntmps94
  go_wp2_with fail
  refine (dparts_any s H.out.1 H.out.2.1).mono ?_
  rw [H.out.2.2]
  rintro e w1 ⟨rfl, hb⟩
  have HB := Lib.hid hb
  clear hb
  go_wp2
  go_ret
  exact ⟨rfl, HB.out⟩
set_option maxHeartbeats 1600000 in
set_option maxRecDepth 100000 in
theorem dratread_any {w : World} (s : ByteArray) {x : Rat} (hs : Short s) (hr : Rd s (some x)) :
    Calls Tryz.prog 47 #[.string s] w fun e w' => ∃ v, e = .returned v ∧ IsFrac w' v x ∧ Below w.heap.size w w' := by
  have h' : RatIs s.data.toList x := hr
  obtain ⟨sb, k, hc, hk⟩ := cut_rd h'
  obtain ⟨sa, hsa⟩ : ∃ sa : ByteArray, sa = ⟨(Lib.itoa x.num).toArray⟩ := ⟨_, rfl⟩
  rw [← hsa] at hc
  obtain ⟨sd, hsd⟩ : ∃ sd : ByteArray, sd = if k = true then sb else ⟨#[49]⟩ := ⟨_, rfl⟩
  have hd : sd.data.toList = Lib.itoa (x.den : Int) := by
    rcases hk with ⟨rfl, hd, hb⟩ | ⟨rfl, hd, hb⟩
    · rw [hsd, hd, itoa_one]; rfl
    · rw [hsd, hb]; rfl
  have H := Lib.hid (And.intro hs (And.intro hc (And.intro (show sa.data.toList = Lib.itoa x.num by rw [hsa]) (And.intro hd (And.intro h' hsd)))))
  clear hs hr hc hk hsa hsd hd h'
  go_enter Tryz.func47, Tryz.ntmps47
  go_upto_region 1 with fail
  have hP := (DPs.start w).newRhole rfl
  generalize w.alloc (.cells #[.bool false, .slice none 0 0, .bool false, .slice none 0 0] 87) = w0 at *
  go_wp2_with fail
  refine (split_any s H.out.1).mono ?_
  rw [dsplit_eq H.out.2.1, ← H.out.2.2.2.2.2]
  rintro e w1 ⟨rfl, hb⟩
  have H1 := Lib.hid (hP.next hb)
  clear hb hP
  go_wp2_with fail
  refine (dread_any sa H.out.2.2.1 H.out.2.2.2.2.1.2.1).mono ?_
  rintro e w2 ⟨v, rfl, hv, hb⟩
  obtain ⟨s2, A2, l2, k2, rfl⟩ := hv.form
  have H2 := Lib.hid (And.intro hv (H1.out.next hb))
  clear hv hb
  go_wp2_with fail
  refine (dread_any sd H.out.2.2.2.1 (by rw [Int.natAbs_natCast]; exact H.out.2.2.2.2.1.2.2)).mono ?_
  rintro e w3 ⟨v, rfl, hv, hb⟩
  obtain ⟨s3, A3, l3, k3, rfl⟩ := hv.form
  have hP3 := H2.out.2.next hb
  have hu := IsFrac.mk (H2.out.1.below hb (Nat.le_refl _)) hv
  clear hv hb
  obtain ⟨m0, m1, m2, m3, d0, d1, d2, d3, f0, f1, f2, f3⟩ := hP3.rhole 0 rfl
  have HV := Lib.hid (And.intro hu hP3)
  clear hu hP3
  go_wp2
  have hF := HV.out.2.rstored 0 rfl HV.out.1
  rw [show (((w3.setCell ⟨w.heap.size, 0, none⟩ (.bool s2)).setCell ⟨w.heap.size, 1, none⟩ (.slice A2 l2 k2)).setCell ⟨w.heap.size, 2, none⟩ (.bool s3)).setCell ⟨w.heap.size, 3, none⟩ (.slice A3 l3 k3) = stFrac w3 w.heap.size s2 A2 l2 k2 s3 A3 l3 k3 from rfl]
  generalize stFrac w3 w.heap.size s2 A2 l2 k2 s3 A3 l3 k3 = W3 at *
  obtain ⟨z0, z1, z2, z3, z4, z5⟩ := hF
  exact bodyPost_ret (v := .agg #[.bool s2, .slice A2 l2 k2, .bool s3, .slice A3 l3 k3]) (by simp [results, Tryz.results47, go_sem, z0, z1, z2, z3]) rfl ⟨_, rfl, z4, z5.below⟩
theorem rd_dlt {s : ByteArray} {x : Rat} (h : Rd s (some x)) : F.Lt (D.B ^ 45) x := by
  have h' : RatIs s.data.toList x := h
  exact ⟨lt_dten _ h'.2.1, lt_dten _ h'.2.2⟩
theorem D45 : D.B ^ 45 * D.B ^ 45 ≤ D.B ^ 100 ∧ 2 * (D.B ^ 45 * D.B ^ 45) ≤ D.B ^ 100 := by
  have h1 : D.B ^ 45 * D.B ^ 45 = D.B ^ 90 := by rw [← Nat.pow_add]
  have h2 : 2 * D.B ^ 90 ≤ D.B ^ 91 := by
    rw [Nat.pow_succ (n := D.B) (m := 90), Nat.mul_comm]
    exact Nat.mul_le_mul_left _ (by have := D.B_one; omega)
  rw [h1]
  exact ⟨D.pow_mono (by omega), Nat.le_trans h2 (D.pow_mono (by omega))⟩
set_option maxHeartbeats 1600000 in
set_option maxRecDepth 100000 in
theorem dmake_ok {w : World} (s t : ByteArray) {p q : Int} (hs : s.data.toList = Lib.itoa p) (ht : t.data.toList = Lib.itoa q) (hp : Lib.nDigits p.natAbs ≤ 400) (hq : Lib.nDigits q.natAbs ≤ 400) :
    Calls Tryz.prog 19 #[.string s, .string t] w fun e w' => e = .returned (qmake p q) ∧ Below w.heap.size w w' := by
  have v1 : vld s.data.toList = true := by rw [hs]; exact vld_itoa hp
  have v2 : vld t.data.toList = true := by rw [ht]; exact vld_itoa hq
  have hz0 := itoa_txt ht 0 [48] (by decide +kernel)
  have H := Lib.hid (And.intro hs (And.intro ht (And.intro hp (And.intro hq (And.intro v1 v2)))))
  clear hs ht hp hq v1 v2
  by_cases h0 : q = 0
  · rw [decide_eq_true h0] at hz0
    have HZ := Lib.hid (show qmake p q = .tuple #[.string ⟨#[]⟩, .int .i64 4] from if_pos h0)
    clear h0
    go_enter Tryz.func19, Tryz.ntmps19
    go_wp2_with fail
    refine (rvalid_v s H.out.2.2.2.2.1).mono ?_
    rintro e w1 ⟨rfl, rfl⟩
    go_wp2_with fail
    refine (rvalid_v t H.out.2.2.2.2.2).mono ?_
    rintro e w1 ⟨rfl, rfl⟩
    go_wp2
    go_ret2
    exact ⟨by rw [HZ.out]; rfl, Below.refl _ _⟩
  · rw [decide_eq_false h0] at hz0
    obtain ⟨o, c, hoc⟩ := qgive_two (Rat.divInt p q)
    have HZ := Lib.hid (And.intro (show qmake p q = qgive (Rat.divInt p q) from if_neg h0) (And.intro hoc h0))
    clear h0 hoc
    go_enter Tryz.func19, Tryz.ntmps19
    go_wp2_with fail
    refine (rvalid_v s H.out.2.2.2.2.1).mono ?_
    rintro e w1 ⟨rfl, rfl⟩
    go_wp2_with fail
    refine (rvalid_v t H.out.2.2.2.2.2).mono ?_
    rintro e w1 ⟨rfl, rfl⟩
    go_wp2_with fail
    refine (dread_any s H.out.1 H.out.2.2.1).mono ?_
    rintro e w1 ⟨v, rfl, hv, hb⟩
    have H1 := Lib.hid (And.intro hv hb)
    clear hv hb
    go_wp2_with fail
    refine (dread_any t H.out.2.1 H.out.2.2.2.1).mono ?_
    rintro e w2 ⟨u, rfl, hu, hb⟩
    have H2 := Lib.hid (And.intro (H1.out.1.below hb (Nat.le_refl _)) (And.intro hu (H1.out.2.trans (hb.mono H1.out.2.size))))
    clear hu hb
    go_wp2_with fail
    refine (dnew_any (k := 45) H2.out.1 H2.out.2.1 (lt_dten _ H.out.2.2.1) (lt_dten _ H.out.2.2.2.1) (by omega)).mono ?_
    rintro e w3 ⟨z, rfl, hz, hb⟩
    have H3 := Lib.hid (And.intro hz (H2.out.2.2.trans (hb.mono H2.out.2.2.size)))
    clear hz hb
    go_wp2_with fail
    refine (dgive_any (k := 45) H3.out.1 (divInt_lt (lt_dten _ H.out.2.2.1) (lt_dten _ H.out.2.2.2.1) HZ.out.2.2) (by omega)).mono ?_
    rw [HZ.out.2.1]
    rintro e w4 ⟨rfl, hb⟩
    have H4 := Lib.hid (H3.out.2.trans (hb.mono H3.out.2.size))
    clear hb
    go_wp2
    go_ret2
    exact ⟨by rw [HZ.out.1, HZ.out.2.1]; rfl, H4.out⟩
set_option maxHeartbeats 1600000 in
set_option maxRecDepth 100000 in
theorem dmake_bad {w : World} (s t : ByteArray) (h : (vld s.data.toList && vld t.data.toList) = false) :
    Calls Tryz.prog 19 #[.string s, .string t] w fun e w' => e = .returned (.tuple #[.string ⟨#[]⟩, .int .i64 1]) ∧ Below w.heap.size w w' := by
  have H := Lib.hid h
  clear h
  by_cases h1 : vld s.data.toList = true
  · have h2 : vld t.data.toList = false := by have := H.out; rw [h1, Bool.true_and] at this; exact this
    have HV := Lib.hid (And.intro h1 h2)
    clear h1 h2
    go_enter Tryz.func19, Tryz.ntmps19
    go_wp2_with fail
    refine (rvalid_v s HV.out.1).mono ?_
    rintro e w1 ⟨rfl, rfl⟩
    go_wp2_with fail
    refine (rvalid_v t HV.out.2).mono ?_
    rintro e w1 ⟨rfl, rfl⟩
    go_wp2
    go_ret2
    exact ⟨rfl, Below.refl _ _⟩
  · have h2 : vld s.data.toList = false := by simpa using h1
    have HV := Lib.hid h2
    clear h1 h2
    go_enter Tryz.func19, Tryz.ntmps19
    go_wp2_with fail
    refine (rvalid_v s HV.out).mono ?_
    rintro e w1 ⟨rfl, rfl⟩
    go_wp2
    go_ret2
    exact ⟨rfl, Below.refl _ _⟩
theorem valid_vv {w : World} (s : ByteArray) {b : Bool} (h : vld s.data.toList = b) : Calls Tryz.prog 79 #[.string s] w fun e w' => e = .returned (.bool b) ∧ w = w' := by subst h; exact valid_any s
set_option maxHeartbeats 1600000 in
set_option maxRecDepth 100000 in
theorem qmake_bad {w : World} (s t : ByteArray) (h : (vld s.data.toList && vld t.data.toList) = false) :
    Calls Tryz.prog 35 #[.string s, .string t] w fun e w' => e = .returned (.tuple #[.string ⟨#[]⟩, .int .i64 1]) ∧ Below w.heap.size w w' := by
  have H := Lib.hid h
  clear h
  by_cases h1 : vld s.data.toList = true
  · have h2 : vld t.data.toList = false := by have := H.out; rw [h1, Bool.true_and] at this; exact this
    have HV := Lib.hid (And.intro h1 h2)
    clear h1 h2
    go_enter Tryz.func35, Tryz.ntmps35
    go_wp2_with fail
    refine (valid_vv s HV.out.1).mono ?_
    rintro e w1 ⟨rfl, rfl⟩
    go_wp2_with fail
    refine (valid_vv t HV.out.2).mono ?_
    rintro e w1 ⟨rfl, rfl⟩
    go_wp2
    go_ret2
    exact ⟨rfl, Below.refl _ _⟩
  · have h2 : vld s.data.toList = false := by simpa using h1
    have HV := Lib.hid h2
    clear h1 h2
    go_enter Tryz.func35, Tryz.ntmps35
    go_wp2_with fail
    refine (valid_vv s HV.out).mono ?_
    rintro e w1 ⟨rfl, rfl⟩
    go_wp2
    go_ret2
    exact ⟨rfl, Below.refl _ _⟩
end Go.Proofs.YtigplffpnbdkeaaGreatDoor
