/- Digits of both packages; the source's small fractions and odd texts; both packages' functions of any texts: one result for both. -/
import Derived.Test.YtfogkkanifnppaaGreatDoorDRatB
namespace Go.Proofs.YtfogkkanifnppaaGreatDoor
open Go Go.RowKit
theorem trim_itoa (z : Int) : Lib.trimPrefix (Lib.itoa z) [45] = Lib.decDigits z.natAbs := by
  by_cases h : z < 0
  · rw [T.itoa_neg h]; exact trim_cons _
  · rw [T.itoa_nonneg h]
    refine trim_other fun e => ?_
    have hm : (45 : UInt8) ∈ Lib.decDigits z.natAbs := List.mem_of_mem_head? (by rw [e]; exact rfl)
    have := T.digit_iff.1 (T.decDigits_digit z.natAbs 45 hm)
    exact absurd this (by decide)
def qdig : Option Rat → Nat
  | none => 0
  | some x => max (Lib.nDigits x.num.natAbs) (Lib.nDigits x.den)
set_option linter.unusedSimpArgs false in
set_option maxHeartbeats 1600000 in
set_option maxRecDepth 100000 in
theorem qdigits_f {w : World} (s : ByteArray) {x : Rat} (hm : Lx w) (hs : Short s) (h : RatIs s.data.toList x) :
    Calls Tryz.prog 86 #[.string s] w fun e w' => e = .returned (.int .i64 (qdig (some x) : Int)) ∧ Below w.heap.size w w' := by
  obtain ⟨sb, k, hc, hk⟩ := cut_rd h
  obtain ⟨sa, hsa⟩ : ∃ sa : ByteArray, sa = ⟨(Lib.itoa x.num).toArray⟩ := ⟨_, rfl⟩
  obtain ⟨t, ht⟩ : ∃ t : ByteArray, t = ⟨(Lib.decDigits x.num.natAbs).toArray⟩ := ⟨_, rfl⟩
  have htr : Lib.trimPrefix sa.data.toList [45] = t.data.toList := by rw [hsa, ht, toArr, toArr]; exact trim_itoa _
  have hts : t.size = Lib.nDigits x.num.natAbs := by rw [ht]; show (Lib.decDigits x.num.natAbs).toArray.size = _; rw [List.size_toArray, Lib.decDigits_length]
  have hsb : sb.size = if k = true then Lib.nDigits x.den else 0 := by
    have e0 : ∀ u : ByteArray, u.size = u.data.toList.length := fun u => by simp
    rw [e0]
    rcases hk with ⟨rfl, _, hb⟩ | ⟨rfl, _, hb⟩
    · rw [hb]; rfl
    · rw [if_pos rfl, hb]; rw [toArr, T.itoa_nonneg (show ¬ ((x.den : Nat) : Int) < 0 by omega), Int.natAbs_natCast, Lib.decDigits_length]
  have hq : qdig (some x) = max t.size sb.size := by
    show max _ _ = _
    rw [hts, hsb]
    rcases hk with ⟨rfl, hd, _⟩ | ⟨rfl, _, _⟩
    · have h1 : Lib.nDigits x.den = 1 := by rw [hd]; decide +kernel
      have h2 : 1 ≤ Lib.nDigits x.num.natAbs := Lib.nDigits_pos _
      rw [h1, if_neg (by decide)]; omega
    · rw [if_pos rfl]
  have h1 := h.2.1
  have h2 := h.2.2
  have hl1 : t.size ≤ 400 := by omega
  have hl2 : sb.size ≤ 400 := by rw [hsb]; split <;> omega
  rw [← hsa] at hc
  have H := Lib.hid (And.intro hm (And.intro hs (And.intro hc (And.intro htr hq))))
  clear hm hs hc htr hq h h1 h2 hk hsa hsb ht hts
  go_enter Tryz.func86, Tryz.ntmps86
  go_wp2_with fail
  refine (cut_any s H.out.1 H.out.2.1 H.out.2.2.1).mono ?_
  rintro e w1 ⟨rfl, hb⟩
  have HB := Lib.hid hb
  clear hb
  go_wp2_with fail
  refine (trim_minus_b sa H.out.2.2.2.1).mono ?_
  rintro e w2 ⟨rfl, rfl⟩
  go_wp2
  go_ret
  exact ⟨by rw [H.out.2.2.2.2]; go_num, HB.out⟩
theorem pick_src {w : World} {g b n : Nat} {cs : Array Value} (h : SrcIn w g) (h1 : 1 ≤ n) (hn : n ≤ 100) (hne : b ≠ g) (hb : w.heap[b]? = some (.cells cs 3 (0, 0))) (hcs : ∀ i, i < n → ∃ z : Int, cs[i]? = some (.int .i64 z) ∧ 1 ≤ z ∧ z ≤ 4) :
    Calls Tryz.prog 75 #[.pointer (some ⟨g, 0, none⟩), .slice (some ⟨b, 0, none⟩) n n] w fun e w' => ∃ z, e = .returned (.int .i64 z) ∧ (1 ≤ z ∧ z ≤ 4) ∧ SrcIn w' g ∧ Src1 g w w' := by
  have hlt := lt_of_block hb
  have H := Lib.hid (And.intro h (And.intro hne (And.intro hb (And.intro hcs hlt))))
  clear h hne hb hcs hlt
  go_enter Tryz.func75, Tryz.ntmps75
  go_wp2_with fail
  refine (n_src (n : Int) H.out.1 (by omega) (by omega)).mono ?_
  rintro e w1 ⟨r, rfl, ⟨hr0, hr1⟩, hs, hb⟩
  obtain ⟨k, rfl⟩ : ∃ k : Nat, r = (k : Int) := ⟨r.toNat, by omega⟩
  obtain ⟨z, hk, hsh⟩ := H.out.2.2.2.1 k (by omega)
  have hcell : w1.cell? ⟨b, k, none⟩ = some (.int .i64 z) := cell_at ((hb.2 b H.out.2.2.2.2 H.out.2.1).trans H.out.2.2.1) hk
  have H1 := Lib.hid (And.intro hsh (And.intro hs hb))
  clear hs hb hk hsh
  go_wp2
  go_ret
  exact ⟨_, rfl, H1.out⟩
theorem range_src {w : World} {g : Nat} (h : SrcIn w g) :
    Calls Tryz.prog 74 #[.pointer (some ⟨g, 0, none⟩), .int .i64 (-9), .int .i64 9] w fun e w' => ∃ z, e = .returned (.int .i64 z) ∧ (-9 ≤ z ∧ z ≤ 9) ∧ SrcIn w' g ∧ Src1 g w w' := by
  have H := Lib.hid h
  clear h
  go_enter Tryz.func74, Tryz.ntmps74
  go_wp2_with fail
  refine (n_src 19 H.out (by omega) (by omega)).mono ?_
  rintro e w1 ⟨r, rfl, ⟨hr0, hr1⟩, hs, hb⟩
  have H1 := Lib.hid (And.intro hs hb)
  clear hs hb
  go_wp2
  go_ret
  exact ⟨_, rfl, ⟨by omega, by omega⟩, H1.out⟩
set_option linter.unusedSimpArgs false in
set_option maxHeartbeats 1600000 in
set_option maxRecDepth 100000 in
theorem rat_src {w : World} {g : Nat} (h : SrcIn w g) :
    Calls Tryz.prog 25 #[.pointer (some ⟨g, 0, none⟩)] w fun e w' => ∃ t x, e = .returned (.string t) ∧ RatIs t.data.toList x ∧ F.Lt (10 ^ 1) x ∧ SrcIn w' g ∧ Src1 g w w' := by
  have H := Lib.hid h
  have hg := h.lt
  clear h
  go_enter Tryz.func25, Tryz.ntmps25
  go_wp2_with fail
  refine (range_src H.out).mono ?_
  rintro e w1 ⟨p, rfl, ⟨hp0, hp1⟩, hs, hb⟩
  have hp3 := ten_D (d := 1) (z := p) (by rw [Nat.max_self]; exact nDigits_le (by decide) (by rw [Nat.pow_one]; omega)) (by omega)
  rw [Nat.max_self] at hp3
  have hg1 : g < w1.heap.size := hs.lt
  have H1 := Lib.hid (And.intro hp3 (And.intro hs hb))
  clear hs hb hp3
  go_wp2_with fail
  refine (rof_fresh p (by omega) (by omega)).mono ?_
  rintro e w2 ⟨v, rfl, hv, hf, hb⟩
  have hB := DSz.big hv
  obtain ⟨s, hs⟩ : ∃ s, s = decide (p < 0) := ⟨_, rfl⟩
  rw [← hs] at hB ⊢
  obtain ⟨A, l, c, rfl, hv'⟩ := hv
  have hg2 : g < w2.heap.size := Nat.lt_of_lt_of_le hg1 hb.size
  have hA := (Below.refl w2.heap.size w2).alloc (Nat.le_refl _) (.cells #[.int .i64 1, .int .i64 1, .int .i64 1, .int .i64 2, .int .i64 3, .int .i64 4] 3)
  have H2 := Lib.hid (And.intro (hB.below hA (Nat.le_refl _)) (And.intro (hf.mono (show g + 1 ≤ w1.heap.size from hg1)) (And.intro ((H1.out.2.1.below hb).below hA) ((H1.out.2.2.trans (Src1.below hb (Nat.le_of_lt hg1))).trans (Src1.below hA (Nat.le_of_lt hg2))))))
  clear hv' hf hb hB hs hA
  go_wp2_with fail
  refine (pick_src (b := w2.heap.size) (n := 6) H2.out.2.2.1 (by omega) (by omega) (by omega) (heap_alloc_new w2 _) (fun i hi => ?_)).mono ?_
  · match i, hi with
    | 0, _ | 1, _ | 2, _ | 3, _ | 4, _ | 5, _ => exact ⟨_, rfl, by decide, by decide⟩
    | i + 6, hi => exact absurd hi (by omega)
  rintro e w3 ⟨q, rfl, ⟨hq0, hq1⟩, hs, hb⟩
  have hq3 := ten_D (d := 1) (z := q) (by rw [Nat.max_self]; exact nDigits_le (by decide) (by rw [Nat.pow_one]; omega)) (by omega)
  rw [Nat.max_self] at hq3
  have hq9 : q ≠ 0 := by omega
  have H3 := Lib.hid (And.intro (H2.out.1.far1 H2.out.2.1 hb) (And.intro hq3 (And.intro hq9 (And.intro hs (H2.out.2.2.2.trans hb)))))
  clear hs hb hq3 hq9
  go_wp2_with fail
  refine (dof_any q (by omega) (by omega)).mono ?_
  rintro e w4 ⟨u, rfl, hu, hb⟩
  have hg3 := H3.out.2.2.2.1.lt
  have H4 := Lib.hid (And.intro (H3.out.1.below hb (Nat.le_refl _)) (And.intro hu (And.intro (H3.out.2.2.2.1.below hb) (H3.out.2.2.2.2.trans (Src1.below hb (Nat.le_of_lt hg3))))))
  clear hu hb
  go_wp2_with fail
  refine (dnew_any (k := 12) H4.out.1 H4.out.2.1 H1.out.1.1 H3.out.2.1.1 (by omega)).mono ?_
  rintro e w5 ⟨z, rfl, hz, hb⟩
  have hg4 := H4.out.2.2.1.lt
  have H5 := Lib.hid (And.intro hz (And.intro (H4.out.2.2.1.below hb) (H4.out.2.2.2.trans (Src1.below hb (Nat.le_of_lt hg4)))))
  clear hz hb
  go_wp2_with fail
  refine (dgive_any (k := 12) H5.out.1 (divInt_lt H1.out.1.1 H3.out.2.1.1 H3.out.2.2.1) (by omega)).mono ?_
  rw [show qgive (Rat.divInt p q) = .tuple #[.string ⟨(rtx (Rat.divInt p q)).toArray⟩, .int .i64 0] from qgive_ok (k := 1) (divInt_lt H1.out.1.2.1 H3.out.2.1.2.1 H3.out.2.2.1) (by omega) (by omega)]
  rintro e w6 ⟨rfl, hb⟩
  have hg5 := H5.out.2.1.lt
  have H6 := Lib.hid (And.intro (H5.out.2.1.below hb) (H5.out.2.2.trans (Src1.below hb (Nat.le_of_lt hg5))))
  clear hb
  go_wp2
  go_ret
  exact ⟨_, _, rfl, (divInt_lt H1.out.1.2.1 H3.out.2.1.2.1 H3.out.2.2.1).text' (k := 1) (by omega) (by omega), divInt_lt H1.out.1.2.1 H3.out.2.1.2.1 H3.out.2.2.1, H6.out⟩
end Go.Proofs.YtfogkkanifnppaaGreatDoor
