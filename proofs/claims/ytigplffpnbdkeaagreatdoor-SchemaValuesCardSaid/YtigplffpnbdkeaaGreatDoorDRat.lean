/- The reference's texts of fractions: split, Parts, Valid, Read. -/
import Derived.Test.YtigplffpnbdkeaaGreatDoorDFrac
import Derived.Test.YtigplffpnbdkeaaGreatDoorRatFG
namespace Go.Proofs.YtigplffpnbdkeaaGreatDoor
open Go Go.RowKit

theorem cut_at {a b : List UInt8} (h : 47 ∉ a) : Lib.cut (a ++ 47 :: b) [47] = (a, b, true) := by
  rcases cut_bar (a ++ 47 :: b) with ⟨h1, _⟩ | ⟨a', b', hl, ha, h2⟩
  · exact absurd (by simp) h1
  · rw [h2]
    have key : ∀ (p q r s : List UInt8), 47 ∉ p → 47 ∉ r → p ++ 47 :: q = r ++ 47 :: s → p = r ∧ q = s := by
      intro p
      induction p with
      | nil =>
        intro q r s _ hr e
        cases r with
        | nil => simp at e; exact ⟨rfl, e⟩
        | cons c r => simp at e; exact absurd (by rw [← e.1]; simp) hr
      | cons c p ih =>
        intro q r s hp hr e
        cases r with
        | nil => simp at e; exact absurd (by rw [e.1]; simp) hp
        | cons c' r =>
          simp at e hp hr
          obtain ⟨e1, e2⟩ := ih q r s hp.2 hr.2 e.2
          exact ⟨by rw [e.1, e1], e2⟩
    obtain ⟨e1, e2⟩ := key _ _ _ _ h ha hl
    rw [e1, e2]
theorem cut_no {l : List UInt8} (h : 47 ∉ l) : Lib.cut l [47] = (l, [], false) := by
  rcases cut_bar l with ⟨_, h2⟩ | ⟨a, b, hl, _, _⟩
  · exact h2
  · exact absurd (by rw [hl]; simp) h
/-- What split gives. -/
def dsplit (s : ByteArray) : Value :=
  .tuple #[.string ⟨(Lib.cut s.data.toList [47]).1.toArray⟩, .string (if (Lib.cut s.data.toList [47]).2.2 = true then ⟨(Lib.cut s.data.toList [47]).2.1.toArray⟩ else ⟨#[49]⟩), .bool (Lib.cut s.data.toList [47]).2.2]
set_option maxHeartbeats 1600000 in
set_option maxRecDepth 100000 in
theorem split_any {w : World} (s : ByteArray) (hs : Short s) :
    Calls Tryz.prog 55 #[.string s] w fun e w' => e = .returned (dsplit s) ∧ Below w.heap.size w w' := by
  have hsz : s.size < 4294967281 := hs
  have hlen : s.data.toList.length = s.size := (Lib.size_eq s).symm
  have HL := Lib.hid hlen
  clear hlen hs
  go_enter Tryz.func55, Tryz.ntmps55
  go_wp2_with fail
  go_loopw [5] (fun iv wr => ∃ k : Nat, k ≤ s.size ∧ iv = .int .i64 (k : Int) ∧ 47 ∉ s.data.toList.take k ∧ Below w.heap.size w wr) (fun iv _ => s.size - (intOf iv).toNat)
  case atStart => exact ⟨0, Nat.zero_le _, rfl, by simp, Below.refl _ _⟩
  case round =>
    obtain ⟨k, hk, rfl, hno, hb⟩ := hrel
    have HA := Lib.hid (And.intro hno hb)
    clear hno hb
    by_cases hlt : k < s.size
    · obtain ⟨c, hcd⟩ : ∃ c, s[k] = c := ⟨_, rfl⟩
      have hk2 : s.data.toList[k]? = some c := by
        rw [← hcd, List.getElem?_eq_getElem (by rw [HL.out]; exact hlt)]; rfl
      have HK := Lib.hid hk2
      clear hk2
      by_cases h47 : c = 47
      · have hc : ((c.toNat : Int) == 47) = true := by rw [h47]; rfl
        obtain ⟨t1, ht1⟩ : ∃ t1, s.extract 0 k = t1 := ⟨_, rfl⟩
        obtain ⟨t2, ht2⟩ : ∃ t2, s.extract (k + 1) s.size = t2 := ⟨_, rfl⟩
        have hcut : Lib.cut s.data.toList [47] = (s.data.toList.take k, s.data.toList.drop (k + 1), true) := by
          have e : s.data.toList = s.data.toList.take k ++ 47 :: s.data.toList.drop (k + 1) := by
            have h1 := List.take_append_drop k s.data.toList
            have hkl : k < s.data.toList.length := by rw [HL.out]; exact hlt
            rw [List.drop_eq_getElem_cons hkl] at h1
            have h2 : s.data.toList[k] = 47 := by
              have := HK.out
              rw [List.getElem?_eq_getElem hkl] at this
              injection this with this
              rw [this, h47]
            rw [h2] at h1
            exact h1.symm
          rw [show Lib.cut s.data.toList [47] = Lib.cut (s.data.toList.take k ++ 47 :: s.data.toList.drop (k + 1)) [47] from congrArg (fun l => Lib.cut l [47]) e]
          exact cut_at HA.out.1
        have HC := Lib.hid (And.intro hcut (And.intro ht1 ht2))
        clear hcut h47
        go_wp2_with fail
        go_region
        go_wp2
        have e1 : t1 = ⟨(s.data.toList.take k).toArray⟩ := by
          rw [← HC.out.2.1]
          apply ByteArray.ext
          apply Array.toList_inj.1
          rw [show (s.extract 0 k).data.toList = (s.data.toList.drop 0).take (k - 0) from Lib.extract_data s 0 k]
          simp
        have e2 : t2 = ⟨(s.data.toList.drop (k + 1)).toArray⟩ := by
          rw [← HC.out.2.2]
          apply ByteArray.ext
          apply Array.toList_inj.1
          rw [show (s.extract (k + 1) s.size).data.toList = (s.data.toList.drop (k + 1)).take (s.size - (k + 1)) from Lib.extract_data s (k + 1) s.size]
          rw [List.take_of_length_le (by rw [List.length_drop, HL.out]; exact Nat.le_refl _)]
        go_ret3
        exact ⟨by unfold dsplit; rw [HC.out.1, e1, e2]; rfl, HA.out.2.drew⟩
      · have hc : ((c.toNat : Int) == 47) = false := by
          rw [beq_eq_false_iff_ne]; intro e
          exact h47 (UInt8.toNat_inj.1 (by have e2 : (47 : UInt8).toNat = 47 := rfl; omega))
        have HN := Lib.hid h47
        clear h47
        go_wp2
        go_roundw
        case rel =>
          refine ⟨k + 1, by omega, by go_num, ?_, HA.out.2⟩
          rw [List.take_add_one, HK.out]
          simp only [Option.toList_some, List.mem_append, List.mem_singleton, not_or]
          exact ⟨HA.out.1, fun e => HN.out e.symm⟩
        case measure => simp [intOf]; omega
    · obtain rfl : k = s.size := by omega
      have hcut : Lib.cut s.data.toList [47] = (s.data.toList, [], false) := cut_no (by
        have := HA.out.1
        rwa [List.take_of_length_le (by rw [HL.out]; exact Nat.le_refl _)] at this)
      have HC := Lib.hid hcut
      clear hcut
      go_wp2
      go_ret3
      exact ⟨by unfold dsplit; rw [HC.out]; rfl, HA.out.2⟩
theorem dsplit_eq {s sa sb : ByteArray} {k : Bool} (hc : Lib.cut s.data.toList [47] = (sa.data.toList, sb.data.toList, k)) : dsplit s = .tuple #[.string sa, .string (if k = true then sb else ⟨#[49]⟩), .bool k] := by
  unfold dsplit
  rw [hc]
theorem itoa_txt {t : ByteArray} {z : Int} (h : t.data.toList = Lib.itoa z) (v : Int) (l : List UInt8) (hl : Lib.itoa v = l) : (t.toList == l) = decide (z = v) := by
  rw [Lib.toList_data, h]
  by_cases hz : z = v
  · rw [decide_eq_true hz, beq_iff_eq, hz, hl]
  · rw [decide_eq_false hz, beq_eq_false_iff_ne]; exact fun e => hz (itoa_inj (e.trans hl.symm))
theorem itoa_fst {t : ByteArray} {z : Int} (h : t.data.toList = Lib.itoa z) : ∃ h0 : 0 < t.size, ((t[0].toNat : Int) == 45) = decide (z < 0) := by
  have hl : t.data.toList.length = t.size := (Lib.size_eq t).symm
  have h0 : 0 < t.size := by
    rw [← hl, h]
    by_cases hz : z < 0
    · rw [T.itoa_neg hz]; simp
    · rw [T.itoa_nonneg hz, Lib.decDigits_length]; exact Lib.nDigits_pos _
  refine ⟨h0, ?_⟩
  have e : t[0] = t.data.toList[0]'(by omega) := rfl
  by_cases hz : z < 0
  · rw [decide_eq_true hz, e]
    simp [h, T.itoa_neg hz]
  · rw [decide_eq_false hz, beq_eq_false_iff_ne, e]
    intro e2
    have hm : t.data.toList[0]'(by omega) ∈ t.data.toList := List.getElem_mem _
    have hm2 : t.data.toList[0]'(by omega) ∈ Lib.decDigits z.natAbs := by
      have key : ∀ l, t.data.toList = l → t.data.toList[0]'(by omega) ∈ l := fun l e3 => e3 ▸ hm
      exact key _ (h.trans (T.itoa_nonneg hz))
    have := T.digit_iff.1 (T.decDigits_digit _ _ hm2)
    omega
theorem rvalid_v {w : World} (s : ByteArray) {b : Bool} (h : vld s.data.toList = b) : Calls Tryz.prog 52 #[.string s] w fun e w' => e = .returned (.bool b) ∧ w = w' := by subst h; exact rvalid_b s rfl
set_option maxHeartbeats 1600000 in
set_option maxRecDepth 100000 in
theorem dparts1 {w : World} (s : ByteArray) {sa sb : ByteArray} {k : Bool} (hs : Short s) (hc : Lib.cut s.data.toList [47] = (sa.data.toList, sb.data.toList, k)) (hv : vld sa.data.toList = false) :
    Calls Tryz.prog 20 #[.string s] w fun e w' => e = .returned (qparts none) ∧ Below w.heap.size w w' := by
  have H := Lib.hid (And.intro hs (And.intro hc hv))
  clear hs hc hv
  by_cases hbig : 802 < s.size
  · go_enter Tryz.func20, Tryz.ntmps20
    go_wp2
    go_ret3
    exact ⟨rfl, Below.refl _ _⟩
  · go_enter Tryz.func20, Tryz.ntmps20
    go_wp2_with fail
    refine (split_any s H.out.1).mono ?_
    rw [dsplit_eq H.out.2.1]
    generalize (if k = true then sb else (⟨#[49]⟩ : ByteArray)) = sd
    rintro e w1 ⟨rfl, hb1⟩
    have HB := Lib.hid hb1
    clear hb1
    go_wp2_with fail
    refine (rvalid_v sa H.out.2.2).mono ?_
    rintro e w2 ⟨rfl, rfl⟩
    go_wp2
    go_ret3
    exact ⟨rfl, HB.out⟩
set_option maxHeartbeats 1600000 in
set_option maxRecDepth 100000 in
theorem dparts2 {w : World} (s : ByteArray) {sa sb : ByteArray} (hs : Short s) (hc : Lib.cut s.data.toList [47] = (sa.data.toList, sb.data.toList, true)) (hv : vld sa.data.toList = true) (hv2 : vld sb.data.toList = false) :
    Calls Tryz.prog 20 #[.string s] w fun e w' => e = .returned (qparts none) ∧ Below w.heap.size w w' := by
  have H := Lib.hid (And.intro hs (And.intro hc (And.intro hv hv2)))
  clear hs hc hv hv2
  by_cases hbig : 802 < s.size
  · go_enter Tryz.func20, Tryz.ntmps20
    go_wp2
    go_ret3
    exact ⟨rfl, Below.refl _ _⟩
  · go_enter Tryz.func20, Tryz.ntmps20
    go_wp2_with fail
    refine (split_any s H.out.1).mono ?_
    rw [dsplit_eq H.out.2.1]
    rintro e w1 ⟨rfl, hb1⟩
    have HB := Lib.hid hb1
    clear hb1
    go_wp2_with fail
    refine (rvalid_v sa H.out.2.2.1).mono ?_
    rintro e w2 ⟨rfl, rfl⟩
    go_wp2_with fail
    refine (rvalid_v sb H.out.2.2.2).mono ?_
    rintro e w2 ⟨rfl, rfl⟩
    go_wp2
    go_ret3
    exact ⟨rfl, HB.out⟩
set_option maxHeartbeats 1600000 in
set_option maxRecDepth 100000 in
theorem dparts3 {w : World} (s : ByteArray) {sa sb : ByteArray} {n d : Int} (hs : Short s) (hc : Lib.cut s.data.toList [47] = (sa.data.toList, sb.data.toList, true)) (hn : sa.data.toList = Lib.itoa n) (hd : sb.data.toList = Lib.itoa d) (hn4 : Lib.nDigits n.natAbs ≤ 400) (hd4 : Lib.nDigits d.natAbs ≤ 400) (h2 : d < 2) :
    Calls Tryz.prog 20 #[.string s] w fun e w' => e = .returned (qparts none) ∧ Below w.heap.size w w' := by
  have v1 : vld sa.data.toList = true := by rw [hn]; exact vld_itoa hn4
  have v2 : vld sb.data.toList = true := by rw [hd]; exact vld_itoa hd4
  have t0 := itoa_txt hn 0 [48] (by decide +kernel)
  have t1 := itoa_txt hd 1 [49] (by decide +kernel)
  have t2 := itoa_txt hd 0 [48] (by decide +kernel)
  obtain ⟨hp, t3⟩ := itoa_fst hd
  have H := Lib.hid (And.intro hs (And.intro hc (And.intro v1 (And.intro v2 h2))))
  clear hs hc v1 v2 hn hd hn4 hd4
  by_cases hbig : 802 < s.size
  · go_enter Tryz.func20, Tryz.ntmps20
    go_wp2
    go_ret3
    exact ⟨rfl, Below.refl _ _⟩
  by_cases z0 : n = 0
  · rw [decide_eq_true z0] at t0
    clear z0 t1 t2 t3
    go_enter Tryz.func20, Tryz.ntmps20
    go_wp2_with fail
    refine (split_any s H.out.1).mono ?_
    rw [dsplit_eq H.out.2.1]
    rintro e w1 ⟨rfl, hb1⟩
    have HB := Lib.hid hb1
    clear hb1
    go_wp2_with fail
    refine (rvalid_v sa H.out.2.2.1).mono ?_
    rintro e w2 ⟨rfl, rfl⟩
    go_wp2_with fail
    refine (rvalid_v sb H.out.2.2.2.1).mono ?_
    rintro e w2 ⟨rfl, rfl⟩
    go_wp2
    go_ret3
    exact ⟨rfl, HB.out⟩
  rw [decide_eq_false z0] at t0
  by_cases z1 : d = 1
  · rw [decide_eq_true z1] at t1
    clear z0 z1 t2 t3 h2
    go_enter Tryz.func20, Tryz.ntmps20
    go_wp2_with fail
    refine (split_any s H.out.1).mono ?_
    rw [dsplit_eq H.out.2.1]
    rintro e w1 ⟨rfl, hb1⟩
    have HB := Lib.hid hb1
    clear hb1
    go_wp2_with fail
    refine (rvalid_v sa H.out.2.2.1).mono ?_
    rintro e w2 ⟨rfl, rfl⟩
    go_wp2_with fail
    refine (rvalid_v sb H.out.2.2.2.1).mono ?_
    rintro e w2 ⟨rfl, rfl⟩
    go_wp2
    go_ret3
    exact ⟨rfl, HB.out⟩
  rw [decide_eq_false z1] at t1
  by_cases z2 : d = 0
  · rw [decide_eq_true z2] at t2
    clear z0 z1 z2 t3 h2
    go_enter Tryz.func20, Tryz.ntmps20
    go_wp2_with fail
    refine (split_any s H.out.1).mono ?_
    rw [dsplit_eq H.out.2.1]
    rintro e w1 ⟨rfl, hb1⟩
    have HB := Lib.hid hb1
    clear hb1
    go_wp2_with fail
    refine (rvalid_v sa H.out.2.2.1).mono ?_
    rintro e w2 ⟨rfl, rfl⟩
    go_wp2_with fail
    refine (rvalid_v sb H.out.2.2.2.1).mono ?_
    rintro e w2 ⟨rfl, rfl⟩
    go_wp2
    go_ret3
    exact ⟨rfl, HB.out⟩
  rw [decide_eq_false z2] at t2
  rw [decide_eq_true (show d < 0 by omega)] at t3
  clear z0 z1 z2 h2
  go_enter Tryz.func20, Tryz.ntmps20
  go_wp2_with fail
  refine (split_any s H.out.1).mono ?_
  rw [dsplit_eq H.out.2.1]
  rintro e w1 ⟨rfl, hb1⟩
  have HB := Lib.hid hb1
  clear hb1
  go_wp2_with fail
  refine (rvalid_v sa H.out.2.2.1).mono ?_
  rintro e w2 ⟨rfl, rfl⟩
  go_wp2_with fail
  refine (rvalid_v sb H.out.2.2.2.1).mono ?_
  rintro e w2 ⟨rfl, rfl⟩
  go_wp2
  go_ret3
  exact ⟨rfl, HB.out⟩
set_option maxHeartbeats 1600000 in
set_option maxRecDepth 100000 in
theorem dparts4 {w : World} (s : ByteArray) {sa sb : ByteArray} {n d : Int} (hs : Short s) (hc : Lib.cut s.data.toList [47] = (sa.data.toList, sb.data.toList, true)) (hn : sa.data.toList = Lib.itoa n) (hd : sb.data.toList = Lib.itoa d) (hn4 : Lib.nDigits n.natAbs ≤ 400) (hd4 : Lib.nDigits d.natAbs ≤ 400) (h2 : 2 ≤ d) :
    Calls Tryz.prog 20 #[.string s] w fun e w' => e = .returned (if 802 < s.size ∨ Nat.gcd n.natAbs d.natAbs ≠ 1 then qparts none else .tuple #[.string sa, .string sb, .bool true]) ∧ Below w.heap.size w w' := by
  have v1 : vld sa.data.toList = true := by rw [hn]; exact vld_itoa hn4
  have v2 : vld sb.data.toList = true := by rw [hd]; exact vld_itoa hd4
  have t0 := itoa_txt hn 0 [48] (by decide +kernel)
  have t1 := itoa_txt hd 1 [49] (by decide +kernel)
  have t2 := itoa_txt hd 0 [48] (by decide +kernel)
  obtain ⟨hp, t3⟩ := itoa_fst hd
  rw [decide_eq_false (show ¬ d = 1 by omega)] at t1
  rw [decide_eq_false (show ¬ d = 0 by omega)] at t2
  rw [decide_eq_false (show ¬ d < 0 by omega)] at t3
  have hgp : 0 < Nat.gcd n.natAbs d.natAbs := Nat.gcd_pos_of_pos_right _ (by omega)
  have hgk : Nat.gcd n.natAbs d.natAbs ≤ d.natAbs := Nat.gcd_le_right _ (by omega)
  obtain ⟨G, hG⟩ : ∃ G : Int, G = ((Nat.gcd n.natAbs d.natAbs : Nat) : Int) := ⟨_, rfl⟩
  obtain ⟨tg, htg⟩ : ∃ tg : ByteArray, tg = ⟨(Lib.itoa G).toArray⟩ := ⟨_, rfl⟩
  have t4 := itoa_txt (t := tg) (z := G) (by rw [htg]) 1 [49] (by decide +kernel)
  have hGk : G.natAbs < D.B ^ 45 := by
    have := lt_dten _ hd4
    rw [hG, Int.natAbs_natCast]; omega
  have H := Lib.hid (And.intro hs (And.intro hc (And.intro v1 (And.intro v2 (And.intro hn (And.intro hd (And.intro hn4 (And.intro hd4 (And.intro hG (And.intro htg hGk))))))))))
  clear hs hc v1 v2 hn hd hn4 hd4 htg hGk hgk hG
  by_cases hbig : 802 < s.size
  · rw [if_pos (.inl hbig)]
    clear t0 t1 t2 t3 t4 hgp
    go_enter Tryz.func20, Tryz.ntmps20
    go_wp2
    go_ret3
    exact ⟨rfl, Below.refl _ _⟩
  by_cases z0 : n = 0
  · have hg1 : Nat.gcd n.natAbs d.natAbs ≠ 1 := by rw [z0]; simp; omega
    rw [if_pos (.inr hg1)]
    rw [decide_eq_true z0] at t0
    clear z0 t1 t2 t3 t4 hg1 hgp
    go_enter Tryz.func20, Tryz.ntmps20
    go_wp2_with fail
    refine (split_any s H.out.1).mono ?_
    rw [dsplit_eq H.out.2.1]
    rintro e w1 ⟨rfl, hb1⟩
    have HB := Lib.hid hb1
    clear hb1
    go_wp2_with fail
    refine (rvalid_v sa H.out.2.2.1).mono ?_
    rintro e w2 ⟨rfl, rfl⟩
    go_wp2_with fail
    refine (rvalid_v sb H.out.2.2.2.1).mono ?_
    rintro e w2 ⟨rfl, rfl⟩
    go_wp2
    go_ret3
    exact ⟨rfl, HB.out⟩
  rw [decide_eq_false z0] at t0
  clear z0
  by_cases hg : Nat.gcd n.natAbs d.natAbs = 1
  · have e4 : (tg.toList == [49]) = true := by rw [t4]; exact decide_eq_true (by rw [H.out.2.2.2.2.2.2.2.2.1, hg]; rfl)
    rw [if_neg (by rintro (h | h); exact hbig h; exact h hg)]
    clear t4 hg hgp
    go_enter Tryz.func20, Tryz.ntmps20
    go_wp2_with fail
    refine (split_any s H.out.1).mono ?_
    rw [dsplit_eq H.out.2.1]
    rintro e w1 ⟨rfl, hb1⟩
    have HB := Lib.hid hb1
    clear hb1
    go_wp2_with fail
    refine (rvalid_v sa H.out.2.2.1).mono ?_
    rintro e w2 ⟨rfl, rfl⟩
    go_wp2_with fail
    refine (rvalid_v sb H.out.2.2.2.1).mono ?_
    rintro e w2 ⟨rfl, rfl⟩
    go_wp2_with fail
    refine (dread_any sa H.out.2.2.2.2.1 H.out.2.2.2.2.2.2.1).mono ?_
    rintro e w3 ⟨v, rfl, hv, hb⟩
    have H3 := Lib.hid (And.intro hv (HB.out.trans (hb.mono HB.out.size)))
    clear hv hb
    go_wp2_with fail
    refine (dread_any sb H.out.2.2.2.2.2.1 H.out.2.2.2.2.2.2.2.1).mono ?_
    rintro e w4 ⟨u, rfl, hu, hb⟩
    have H4 := Lib.hid (And.intro (H3.out.1.below hb (Nat.le_refl _)) (And.intro hu (H3.out.2.trans (hb.mono H3.out.2.size))))
    clear hu hb
    go_wp2_with fail
    refine (dgcd_any (k := 45) H.out.2.2.2.2.2.2.2.2.1 H4.out.1 H4.out.2.1 (lt_dten _ H.out.2.2.2.2.2.2.1) (lt_dten _ H.out.2.2.2.2.2.2.2.1) (by omega)).mono ?_
    rintro e w5 ⟨v, rfl, hv, hb⟩
    have H5 := Lib.hid (And.intro hv (H4.out.2.2.trans (hb.mono H4.out.2.2.size)))
    clear hv hb
    go_wp2_with fail
    refine (rtext_any (k := 45) H5.out.1 H.out.2.2.2.2.2.2.2.2.2.2 (by omega)).mono ?_
    rw [← H.out.2.2.2.2.2.2.2.2.2.1]
    rintro e w6 ⟨rfl, hb⟩
    have H6 := Lib.hid (H5.out.2.trans (hb.mono H5.out.2.size))
    clear hb
    go_wp2
    go_ret3
    exact ⟨rfl, H6.out⟩
  · have e4 : (tg.toList == [49]) = false := by rw [t4]; exact decide_eq_false (by rw [H.out.2.2.2.2.2.2.2.2.1]; omega)
    rw [if_pos (.inr hg)]
    clear t4 hg hgp
    go_enter Tryz.func20, Tryz.ntmps20
    go_wp2_with fail
    refine (split_any s H.out.1).mono ?_
    rw [dsplit_eq H.out.2.1]
    rintro e w1 ⟨rfl, hb1⟩
    have HB := Lib.hid hb1
    clear hb1
    go_wp2_with fail
    refine (rvalid_v sa H.out.2.2.1).mono ?_
    rintro e w2 ⟨rfl, rfl⟩
    go_wp2_with fail
    refine (rvalid_v sb H.out.2.2.2.1).mono ?_
    rintro e w2 ⟨rfl, rfl⟩
    go_wp2_with fail
    refine (dread_any sa H.out.2.2.2.2.1 H.out.2.2.2.2.2.2.1).mono ?_
    rintro e w3 ⟨v, rfl, hv, hb⟩
    have H3 := Lib.hid (And.intro hv (HB.out.trans (hb.mono HB.out.size)))
    clear hv hb
    go_wp2_with fail
    refine (dread_any sb H.out.2.2.2.2.2.1 H.out.2.2.2.2.2.2.2.1).mono ?_
    rintro e w4 ⟨u, rfl, hu, hb⟩
    have H4 := Lib.hid (And.intro (H3.out.1.below hb (Nat.le_refl _)) (And.intro hu (H3.out.2.trans (hb.mono H3.out.2.size))))
    clear hu hb
    go_wp2_with fail
    refine (dgcd_any (k := 45) H.out.2.2.2.2.2.2.2.2.1 H4.out.1 H4.out.2.1 (lt_dten _ H.out.2.2.2.2.2.2.1) (lt_dten _ H.out.2.2.2.2.2.2.2.1) (by omega)).mono ?_
    rintro e w5 ⟨v, rfl, hv, hb⟩
    have H5 := Lib.hid (And.intro hv (H4.out.2.2.trans (hb.mono H4.out.2.2.size)))
    clear hv hb
    go_wp2_with fail
    refine (rtext_any (k := 45) H5.out.1 H.out.2.2.2.2.2.2.2.2.2.2 (by omega)).mono ?_
    rw [← H.out.2.2.2.2.2.2.2.2.2.1]
    rintro e w6 ⟨rfl, hb⟩
    have H6 := Lib.hid (H5.out.2.trans (hb.mono H5.out.2.size))
    clear hb
    go_wp2
    go_ret3
    exact ⟨rfl, H6.out⟩
set_option maxHeartbeats 1600000 in
set_option maxRecDepth 100000 in
theorem dparts5 {w : World} (s : ByteArray) {sa sb : ByteArray} {n : Int} (hs : Short s) (hc : Lib.cut s.data.toList [47] = (sa.data.toList, sb.data.toList, false)) (hn : sa.data.toList = Lib.itoa n) (hn4 : Lib.nDigits n.natAbs ≤ 400) (hsm : ¬ 802 < s.size) :
    Calls Tryz.prog 20 #[.string s] w fun e w' => e = .returned (.tuple #[.string sa, .string ⟨#[49]⟩, .bool true]) ∧ Below w.heap.size w w' := by
  have v1 : vld sa.data.toList = true := by rw [hn]; exact vld_itoa hn4
  have v2 : vld (⟨#[49]⟩ : ByteArray).data.toList = true := by decide +kernel
  have H := Lib.hid (And.intro hs (And.intro hc (And.intro v1 v2)))
  clear hs hc v1 v2 hn hn4
  go_enter Tryz.func20, Tryz.ntmps20
  go_wp2_with fail
  refine (split_any s H.out.1).mono ?_
  rw [dsplit_eq H.out.2.1]
  rintro e w1 ⟨rfl, hb1⟩
  have HB := Lib.hid hb1
  clear hb1
  go_wp2_with fail
  refine (rvalid_v sa H.out.2.2.1).mono ?_
  rintro e w2 ⟨rfl, rfl⟩
  go_wp2_with fail
  refine (rvalid_v ⟨#[49]⟩ H.out.2.2.2).mono ?_
  rintro e w2 ⟨rfl, rfl⟩
  go_wp2
  go_ret3
  exact ⟨rfl, HB.out⟩
end Go.Proofs.YtigplffpnbdkeaaGreatDoor
