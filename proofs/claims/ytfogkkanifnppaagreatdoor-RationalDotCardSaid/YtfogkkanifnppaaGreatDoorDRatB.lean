/- The reference's functions of texts of fractions, for any texts. -/
import Derived.Test.YtfogkkanifnppaaGreatDoorDRat
import Derived.Test.YtfogkkanifnppaaGreatDoorQLong
namespace Go.Proofs.YtfogkkanifnppaaGreatDoor
open Go Go.RowKit
theorem rtx_len {s : ByteArray} {x : Rat} (h : RatIs s.data.toList x) : ¬ 802 < s.size := by
  have h1 : s.size = s.data.toList.length := by simp
  rw [h1, h.1]
  have h2 := itoa_len x.num
  have h3 := Lib.decDigits_length x.den
  have h4 := h.2.1
  have h5 := h.2.2
  by_cases hd : x.den = 1
  · rw [rtx_one hd]; omega
  · rw [rtx_bar hd, T.itoa_nonneg (show ¬ ((x.den : Nat) : Int) < 0 by omega), Int.natAbs_natCast, List.length_append, List.length_cons, h3]; omega
theorem dparts_any {w : World} (s : ByteArray) {r : Option Rat} (hs : Short s) (hr : Rd s r) :
    Calls Tryz.prog 32 #[.string s] w fun e w' => e = .returned (qparts r) ∧ Below w.heap.size w w' := by
  cases r with
  | none =>
    rcases hr with ⟨a, b, k, hc, hv⟩ | ⟨n, b, hc, hn, hv⟩ | ⟨n, d, hc, hn, hd, h2⟩ | ⟨n, d, hc, hn, hd, h2, hg⟩
    · exact dparts1 s (sa := ⟨a.toArray⟩) (sb := ⟨b.toArray⟩) hs (by rw [toArr, toArr]; exact hc) (by rw [toArr]; exact hv)
    · exact dparts2 s (sa := ⟨(Lib.itoa n).toArray⟩) (sb := ⟨b.toArray⟩) hs (by rw [toArr, toArr]; exact hc) (by rw [toArr]; exact vld_itoa hn) (by rw [toArr]; exact hv)
    · exact dparts3 s (sa := ⟨(Lib.itoa n).toArray⟩) (sb := ⟨(Lib.itoa d).toArray⟩) hs (by rw [toArr, toArr]; exact hc) (toArr _) (toArr _) hn hd h2
    · refine (dparts4 s (sa := ⟨(Lib.itoa n).toArray⟩) (sb := ⟨(Lib.itoa d).toArray⟩) hs (by rw [toArr, toArr]; exact hc) (toArr _) (toArr _) hn hd h2).mono ?_
      rintro e w' ⟨he, hb⟩
      rw [if_pos (.inr hg)] at he
      exact ⟨he, hb⟩
  | some x =>
    have h' : RatIs s.data.toList x := hr
    obtain ⟨sb, k, hc, hk⟩ := cut_rd h'
    rcases hk with ⟨rfl, hd, hb⟩ | ⟨rfl, hd, hb⟩
    · refine (dparts5 s hs hc (toArr _) h'.2.1 (rtx_len h')).mono ?_
      rintro e w' ⟨he, hb⟩
      refine ⟨he.trans ?_, hb⟩
      show _ = Ending.returned (.tuple #[.string ⟨(Lib.itoa x.num).toArray⟩, .string ⟨(Lib.itoa (x.den : Int)).toArray⟩, .bool true])
      rw [hd, itoa_one]
    · subst hb
      have hg : Nat.gcd x.num.natAbs ((x.den : Int)).natAbs = 1 := by rw [Int.natAbs_natCast]; exact x.reduced
      refine (dparts4 s hs hc (toArr _) (toArr _) h'.2.1 (by rw [Int.natAbs_natCast]; exact h'.2.2) (by omega)).mono ?_
      rintro e w' ⟨he, hb⟩
      rw [if_neg (by rintro (h | h); exact rtx_len h' h; exact h hg)] at he
      exact ⟨he, hb⟩
theorem qparts_shape (r : Option Rat) : ∃ a b : ByteArray, qparts r = .tuple #[.string a, .string b, .bool r.isSome] := by
  cases r
  · exact ⟨_, _, rfl⟩
  · exact ⟨_, _, rfl⟩
set_option maxHeartbeats 1600000 in
set_option maxRecDepth 100000 in
theorem dvalid_any {w : World} (s : ByteArray) {r : Option Rat} (hs : Short s) (hr : Rd s r) :
    Calls Tryz.prog 35 #[.string s] w fun e w' => e = .returned (.bool r.isSome) ∧ Below w.heap.size w w' := by
  obtain ⟨a, b, hq⟩ := qparts_shape r
  have H := Lib.hid (And.intro hs (And.intro hr hq))
  clear hs hr hq
  go_enter Tryz.func35, Tryz.ntmps35
  go_wp2_with fail
  refine (dparts_any s H.out.1 H.out.2.1).mono ?_
  rw [H.out.2.2]
  rintro e w1 ⟨rfl, hb⟩
  have HB := Lib.hid hb
  clear hb
  go_wp2
  go_ret
  exact ⟨rfl, HB.out⟩
set_option maxHeartbeats 1600000 in
set_option maxRecDepth 100000 in
theorem dratread_any {w : World} (s : ByteArray) {x : Rat} (hs : Short s) (hr : Rd s (some x)) :
    Calls Tryz.prog 87 #[.string s] w fun e w' => ∃ v, e = .returned v ∧ IsFrac w' v x ∧ Below w.heap.size w w' := by
  have h' : RatIs s.data.toList x := hr
  obtain ⟨sb, k, hc, hk⟩ := cut_rd h'
  obtain ⟨sa, hsa⟩ : ∃ sa : ByteArray, sa = ⟨(Lib.itoa x.num).toArray⟩ := ⟨_, rfl⟩
  rw [← hsa] at hc
  obtain ⟨sd, hsd⟩ : ∃ sd : ByteArray, sd = if k = true then sb else ⟨#[49]⟩ := ⟨_, rfl⟩
  have hd : sd.data.toList = Lib.itoa (x.den : Int) := by
    rcases hk with ⟨rfl, hd, hb⟩ | ⟨rfl, hd, hb⟩
    · rw [hsd, hd, itoa_one]; rfl
    · rw [hsd, hb]; rfl
  have H := Lib.hid (And.intro hs (And.intro hc (And.intro (show sa.data.toList = Lib.itoa x.num by rw [hsa]) (And.intro hd (And.intro h' hsd)))))
  clear hs hr hc hk hsa hsd hd h'
  go_enter Tryz.func87, Tryz.ntmps87
  go_upto_region 1 with fail
  have hP := (DPs.start w).newRhole rfl
  generalize w.alloc (.cells #[.bool false, .slice none 0 0, .bool false, .slice none 0 0] 68) = w0 at *
  go_wp2_with fail
  refine (split_any s H.out.1).mono ?_
  rw [dsplit_eq H.out.2.1, ← H.out.2.2.2.2.2]
  rintro e w1 ⟨rfl, hb⟩
  have H1 := Lib.hid (hP.next hb)
  clear hb hP
  go_wp2_with fail
  refine (dread_any sa H.out.2.2.1 H.out.2.2.2.2.1.2.1).mono ?_
  rintro e w2 ⟨v, rfl, hv, hb⟩
  obtain ⟨s2, A2, l2, k2, rfl⟩ := hv.form
  have H2 := Lib.hid (And.intro hv (H1.out.next hb))
  clear hv hb
  go_wp2_with fail
  refine (dread_any sd H.out.2.2.2.1 (by rw [Int.natAbs_natCast]; exact H.out.2.2.2.2.1.2.2)).mono ?_
  rintro e w3 ⟨v, rfl, hv, hb⟩
  obtain ⟨s3, A3, l3, k3, rfl⟩ := hv.form
  have hP3 := H2.out.2.next hb
  have hu := IsFrac.mk (H2.out.1.below hb (Nat.le_refl _)) hv
  clear hv hb
  obtain ⟨m0, m1, m2, m3, d0, d1, d2, d3, f0, f1, f2, f3⟩ := hP3.rhole 0 rfl
  have HV := Lib.hid (And.intro hu hP3)
  clear hu hP3
  go_wp2
  have hF := HV.out.2.rstored 0 rfl HV.out.1
  rw [show (((w3.setCell ⟨w.heap.size, 0, none⟩ (.bool s2)).setCell ⟨w.heap.size, 1, none⟩ (.slice A2 l2 k2)).setCell ⟨w.heap.size, 2, none⟩ (.bool s3)).setCell ⟨w.heap.size, 3, none⟩ (.slice A3 l3 k3) = stFrac w3 w.heap.size s2 A2 l2 k2 s3 A3 l3 k3 from rfl]
  generalize stFrac w3 w.heap.size s2 A2 l2 k2 s3 A3 l3 k3 = W3 at *
  obtain ⟨z0, z1, z2, z3, z4, z5⟩ := hF
  exact bodyPost_ret (v := .agg #[.bool s2, .slice A2 l2 k2, .bool s3, .slice A3 l3 k3]) (by simp [results, Tryz.results87, go_sem, z0, z1, z2, z3]) rfl ⟨_, rfl, z4, z5.below⟩
theorem rd_dlt {s : ByteArray} {x : Rat} (h : Rd s (some x)) : F.Lt (D.B ^ 45) x := by
  have h' : RatIs s.data.toList x := h
  exact ⟨lt_dten _ h'.2.1, lt_dten _ h'.2.2⟩
theorem D45 : D.B ^ 45 * D.B ^ 45 ≤ D.B ^ 100 ∧ 2 * (D.B ^ 45 * D.B ^ 45) ≤ D.B ^ 100 := by
  have h1 : D.B ^ 45 * D.B ^ 45 = D.B ^ 90 := by rw [← Nat.pow_add]
  have h2 : 2 * D.B ^ 90 ≤ D.B ^ 91 := by
    rw [Nat.pow_succ (n := D.B) (m := 90), Nat.mul_comm]
    exact Nat.mul_le_mul_left _ (by have := D.B_one; omega)
  rw [h1]
  exact ⟨D.pow_mono (by omega), Nat.le_trans h2 (D.pow_mono (by omega))⟩
set_option maxHeartbeats 1600000 in
set_option maxRecDepth 100000 in
theorem radd02_any {w : World} (s t : ByteArray) {r q : Option Rat} (hs : Short s) (ht : Short t) (hr : Rd s r) (hq : Rd t q) :
    Calls Tryz.prog 40 #[.string s, .string t] w fun e w' => e = .returned (qres (· + ·) r q) ∧ Below w.heap.size w w' := by
  have H := Lib.hid (And.intro hs (And.intro ht (And.intro hr hq)))
  clear hs ht hr hq
  go_enter Tryz.func40, Tryz.ntmps40
  go_wp2_with fail
  refine (dvalid_any s H.out.1 H.out.2.2.1).mono ?_
  rintro e w1 ⟨rfl, hb⟩
  have H1 := Lib.hid hb
  clear hb
  cases r with
  | none =>
    go_wp2
    go_ret2
    exact ⟨rfl, H1.out⟩
  | some x =>
    go_wp2_with fail
    refine (dvalid_any t H.out.2.1 H.out.2.2.2).mono ?_
    rintro e w2 ⟨rfl, hb⟩
    have H2 := Lib.hid (H1.out.trans (hb.mono H1.out.size))
    clear hb
    cases q with
    | none =>
      go_wp2
      go_ret2
      exact ⟨rfl, H2.out⟩
    | some y =>
      obtain ⟨o, c, hoc⟩ := qgive_two (x + y)
      have HOC := Lib.hid hoc
      clear hoc
      go_wp2_with fail
      refine (dratread_any (x := x) s H.out.1 H.out.2.2.1).mono ?_
      rintro e w3 ⟨v, rfl, hv, hb⟩
      have H3 := Lib.hid (And.intro hv (H2.out.trans (hb.mono H2.out.size)))
      clear hv hb
      go_wp2_with fail
      refine (dratread_any (x := y) t H.out.2.1 H.out.2.2.2).mono ?_
      rintro e w4 ⟨u, rfl, hu, hb⟩
      have H4 := Lib.hid (And.intro (H3.out.1.below hb) (And.intro hu (H3.out.2.trans (hb.mono H3.out.2.size))))
      clear hu hb
      go_wp2_with fail
      refine (dadd_any H4.out.1 H4.out.2.1 (rd_dlt H.out.2.2.1) (rd_dlt H.out.2.2.2) (by omega)).mono ?_
      rintro e w5 ⟨z, rfl, hz, hb⟩
      have H5 := Lib.hid (And.intro hz (H4.out.2.2.trans (hb.mono H4.out.2.2.size)))
      clear hz hb
      go_wp2_with fail
      refine (dgive_any (k := 100) H5.out.1 ((F.plus_lt (rd_dlt H.out.2.2.1) (rd_dlt H.out.2.2.2)).mono D45.2) (by omega)).mono ?_
      rw [HOC.out]
      rintro e w6 ⟨rfl, hb⟩
      have H6 := Lib.hid (H5.out.2.trans (hb.mono H5.out.2.size))
      clear hb
      go_wp2
      go_ret2
      exact ⟨by show _ = Ending.returned (qgive (x + y)); rw [HOC.out]; rfl, H6.out⟩
end Go.Proofs.YtfogkkanifnppaaGreatDoor
