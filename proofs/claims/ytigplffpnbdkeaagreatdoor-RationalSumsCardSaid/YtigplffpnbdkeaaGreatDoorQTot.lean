/- Digits of both packages; the source's small fractions and odd texts; both packages' functions of any texts: one result for both. -/
import Derived.Test.YtigplffpnbdkeaaGreatDoorDRatB
namespace Go.Proofs.YtigplffpnbdkeaaGreatDoor
open Go Go.RowKit
theorem both_cases (s t : ByteArray) : (vld s.data.toList && vld t.data.toList) = false ∨ ∃ p q, s.data.toList = Lib.itoa p ∧ t.data.toList = Lib.itoa q ∧ Lib.nDigits p.natAbs ≤ 400 ∧ Lib.nDigits q.natAbs ≤ 400 := by
  rcases Bool.eq_false_or_eq_true (vld s.data.toList && vld t.data.toList) with h | h
  · rw [Bool.and_eq_true] at h
    obtain ⟨p, hp, hp'⟩ := itoa_of_vld h.1
    obtain ⟨q, hq, hq'⟩ := itoa_of_vld h.2
    exact .inr ⟨p, q, hp, hq, hp', hq'⟩
  · exact .inl h

theorem short_of {s : ByteArray} (h : s.size ≤ 1000) : Short s := by unfold Short; omega
theorem trim_itoa (z : Int) : Lib.trimPrefix (Lib.itoa z) [45] = Lib.decDigits z.natAbs := by
  by_cases h : z < 0
  · rw [T.itoa_neg h]; exact trim_cons _
  · rw [T.itoa_nonneg h]
    refine trim_other fun e => ?_
    have hm : (45 : UInt8) ∈ Lib.decDigits z.natAbs := List.mem_of_mem_head? (by rw [e]; exact rfl)
    have := T.digit_iff.1 (T.decDigits_digit z.natAbs 45 hm)
    exact absurd this (by decide)
def qdig : Option Rat → Nat
  | none => 0
  | some x => max (Lib.nDigits x.num.natAbs) (Lib.nDigits x.den)
set_option linter.unusedSimpArgs false in
set_option maxHeartbeats 1600000 in
set_option maxRecDepth 100000 in
theorem qdigits_f {w : World} (s : ByteArray) {x : Rat} (hm : Lx w) (hs : Short s) (h : RatIs s.data.toList x) :
    Calls Tryz.prog 93 #[.string s] w fun e w' => e = .returned (.int .i64 (qdig (some x) : Int)) ∧ Below w.heap.size w w' := by
  obtain ⟨sb, k, hc, hk⟩ := cut_rd h
  obtain ⟨sa, hsa⟩ : ∃ sa : ByteArray, sa = ⟨(Lib.itoa x.num).toArray⟩ := ⟨_, rfl⟩
  obtain ⟨t, ht⟩ : ∃ t : ByteArray, t = ⟨(Lib.decDigits x.num.natAbs).toArray⟩ := ⟨_, rfl⟩
  have htr : Lib.trimPrefix sa.data.toList [45] = t.data.toList := by rw [hsa, ht, toArr, toArr]; exact trim_itoa _
  have hts : t.size = Lib.nDigits x.num.natAbs := by rw [ht]; show (Lib.decDigits x.num.natAbs).toArray.size = _; rw [List.size_toArray, Lib.decDigits_length]
  have hsb : sb.size = if k = true then Lib.nDigits x.den else 0 := by
    have e0 : ∀ u : ByteArray, u.size = u.data.toList.length := fun u => by simp
    rw [e0]
    rcases hk with ⟨rfl, _, hb⟩ | ⟨rfl, _, hb⟩
    · rw [hb]; rfl
    · rw [if_pos rfl, hb]; rw [toArr, T.itoa_nonneg (show ¬ ((x.den : Nat) : Int) < 0 by omega), Int.natAbs_natCast, Lib.decDigits_length]
  have hq : qdig (some x) = max t.size sb.size := by
    show max _ _ = _
    rw [hts, hsb]
    rcases hk with ⟨rfl, hd, _⟩ | ⟨rfl, _, _⟩
    · have h1 : Lib.nDigits x.den = 1 := by rw [hd]; decide +kernel
      have h2 : 1 ≤ Lib.nDigits x.num.natAbs := Lib.nDigits_pos _
      rw [h1, if_neg (by decide)]; omega
    · rw [if_pos rfl]
  have h1 := h.2.1
  have h2 := h.2.2
  have hl1 : t.size ≤ 400 := by omega
  have hl2 : sb.size ≤ 400 := by rw [hsb]; split <;> omega
  rw [← hsa] at hc
  have H := Lib.hid (And.intro hm (And.intro hs (And.intro hc (And.intro htr hq))))
  clear hm hs hc htr hq h h1 h2 hk hsa hsb ht hts
  go_enter Tryz.func93, Tryz.ntmps93
  go_wp2_with fail
  refine (cut_any s H.out.1 H.out.2.1 H.out.2.2.1).mono ?_
  rintro e w1 ⟨rfl, hb⟩
  have HB := Lib.hid hb
  clear hb
  go_wp2_with fail
  refine (trim_minus_b sa H.out.2.2.2.1).mono ?_
  rintro e w2 ⟨rfl, rfl⟩
  go_wp2
  go_ret
  exact ⟨by rw [H.out.2.2.2.2]; go_num, HB.out⟩
set_option linter.unusedSimpArgs false in
set_option maxHeartbeats 1600000 in
set_option maxRecDepth 100000 in
theorem ddigits_any {w : World} (s : ByteArray) {r : Option Rat} (hs : Short s) (hr : Rd s r) :
    Calls Tryz.prog 95 #[.string s] w fun e w' => e = .returned (.int .i64 (qdig r : Int)) ∧ Below w.heap.size w w' := by
  have H := Lib.hid (And.intro hs hr)
  clear hs hr
  go_enter Tryz.func95, Tryz.ntmps95
  go_wp2_with fail
  refine (dvalid_any s H.out.1 H.out.2).mono ?_
  rintro e w1 ⟨rfl, hb⟩
  have H1 := Lib.hid ((DPs.start w).next hb)
  clear hb
  cases r with
  | none =>
    go_wp2
    go_ret
    exact ⟨rfl, H1.out.below⟩
  | some x =>
    go_upto_region 3 with fail
    go_cut [3] from 4 (fun s3 wx => ∃ g3 : Nat, s3 = .pointer (some ⟨g3, 0, none⟩) ∧ DPs w [(g3, .rat x)] wx)
    case first =>
      go_wp2_with fail
      refine (dratread_any (x := x) s H.out.1 H.out.2).mono ?_
      rintro e w2 ⟨v, rfl, hv, hb⟩
      obtain ⟨s1, A1, l1, c1, t1, A1', l1', c1', rfl⟩ := hv.shape
      have HR := Lib.hid (And.intro (H1.out.next hb) hv)
      clear hv hb
      go_wp2_with fail
      go_meet
      exact ⟨_, rfl, HR.out.1.boxRat HR.out.2 rfl⟩
    obtain ⟨g3, rfl, hP⟩ := hcut
    go_upto_region 4 with fail
    refine RelV.region_rest 6 [0, 1, 2, 3, 4, 5] _ rfl rfl (R := [fun v _ => v = .pointer (some ⟨g3, 0, none⟩), fun v w => DBig w v (x).num, fun v _ => v = .int .i64 (Lib.nDigits x.num.natAbs : Int), fun v _ => v = .pointer (some ⟨g3, 2, none⟩), fun v w => DBig w v (x.den : Int), fun v _ => v = .int .i64 (Lib.nDigits ((x.den : Int)).natAbs : Int)])
      (E := DRE w [(g3, .rat x)] wc.heap.size 1000 1001) (T := fun w w' => Below w.heap.size w w') (by kernel_rfl) (by kernel_rfl) (by kernel_rfl) (DRE.start hP 1000 1001) ?_ ?_ ?_
    · intro D vals i v w1 w2 hi hE hT hv
      match i, hi with
      | 1, _ | 4, _ => exact DBig.below hv hT (Nat.le_refl _)
      | 0, _ | 2, _ | 3, _ | 5, _ => exact hv
      | i + 6, hi => exact absurd hi (by omega)
    · refine RelV.Steps.cons (L := []) rfl (by kernel_rfl) ?_ ?_
      · intro vals w' D hE hF hR K hK
        simp only [Rel.putL, Rel.dst, z1, z2, z3, z4, Act.put, z5, z6, z7] at hK ⊢
        go_simp
        exact hK _ _ rfl (Below.refl _ _) (hE.same (by decide) (by decide))
      refine RelV.Steps.cons (L := [0]) rfl (by kernel_rfl) ?_ ?_
      · intro vals w' D hE hF hR K hK
        have d0 : vals 0 = .pointer (some ⟨g3, 0, none⟩) := hR.1
        obtain ⟨s, A, l, c, t, A', l', c', c0, c1, c2, c3, hi⟩ := hE.1.rat 0 rfl
        simp only [Rel.putL, Rel.dst, z1, z2, z3, z4, Act.put, z5, z6, z7, d0] at hK ⊢
        go_simp
        exact hK _ _ hi.parts.1 (Below.refl _ _) (hE.same (by decide) (by decide))
      refine RelV.Steps.cons (L := [1]) rfl (by kernel_rfl) ?_ ?_
      · intro vals w' D hE hF hR K hK
        have r1 := hR.1
        simp only [Rel.putL, Rel.dst, z1, z2, z3, z4, Act.put, z5, z6, z7] at hK ⊢
        go_simp
        go_at_call 145
        refine (rdigits_any (k := 45) r1 (rd_dlt H.out.2).1 (by omega)).mono ?_
        rintro e w2 ⟨rfl, hb⟩
        exact hK _ _ rfl hb (hE.step hb (by decide) (by decide))
      refine RelV.Steps.cons (L := []) rfl (by kernel_rfl) ?_ ?_
      · intro vals w' D hE hF hR K hK
        simp only [Rel.putL, Rel.dst, z1, z2, z3, z4, Act.put, z5, z6, z7] at hK ⊢
        go_simp
        exact hK _ _ rfl (Below.refl _ _) (hE.same (by decide) (by decide))
      refine RelV.Steps.cons (L := [3]) rfl (by kernel_rfl) ?_ ?_
      · intro vals w' D hE hF hR K hK
        have d3 : vals 3 = .pointer (some ⟨g3, 2, none⟩) := hR.1
        obtain ⟨s, A, l, c, t, A', l', c', c0, c1, c2, c3, hi⟩ := hE.1.rat 0 rfl
        simp only [Rel.putL, Rel.dst, z1, z2, z3, z4, Act.put, z5, z6, z7, d3] at hK ⊢
        go_simp
        exact hK _ _ (hi.parts.2) (Below.refl _ _) (hE.same (by decide) (by decide))
      refine RelV.Steps.cons (L := [4]) rfl (by kernel_rfl) ?_ ?_
      · intro vals w' D hE hF hR K hK
        have r4 := hR.1
        simp only [Rel.putL, Rel.dst, z1, z2, z3, z4, Act.put, z5, z6, z7] at hK ⊢
        go_simp
        go_at_call 145
        refine (rdigits_any (k := 45) r4 (by rw [Int.natAbs_natCast]; exact (rd_dlt H.out.2).2) (by omega)).mono ?_
        rintro e w2 ⟨rfl, hb⟩
        exact hK _ _ rfl hb (hE.step hb (by decide) (by decide))
      exact RelV.Steps.done
    · intro vals w1 D hD hE hR
      obtain ⟨r0, r1, r2, r3, r4, r5, _⟩ := hR
      have d2 : vals 2 = .int .i64 (Lib.nDigits x.num.natAbs : Int) := r2
      have d5 : vals 5 = .int .i64 (Lib.nDigits ((x.den : Int)).natAbs : Int) := r5
      have HP := Lib.hid hE.1
      simp only [Rel.putL, Rel.dst, z1, z2, z3, z4, Act.put, z5, z6, z7, d2, d5]
      clear hE hD r0 r1 r2 r3 r4 r5 d2 d5
      have hn1 : Lib.nDigits x.num.natAbs ≤ 400 := (show RatIs s.data.toList x from H.out.2).2.1
      have hn2 : Lib.nDigits ((x.den : Int)).natAbs ≤ 400 := by rw [Int.natAbs_natCast]; exact (show RatIs s.data.toList x from H.out.2).2.2
      go_wp2
      go_ret
      exact ⟨by rw [show qdig (some x) = max (Lib.nDigits x.num.natAbs) (Lib.nDigits ((x.den : Int)).natAbs) by rw [Int.natAbs_natCast]; rfl]; go_num, HP.out.below⟩
set_option linter.unusedSimpArgs false in
set_option maxHeartbeats 1600000 in
set_option maxRecDepth 100000 in
theorem text_src {w : World} {g b n : Nat} {cs : Array Value} (h : SrcIn w g) (h1 : 1 ≤ n) (hn : n ≤ 100) (hne : b ≠ g) (hb : w.heap[b]? = some (.cells cs 9 (0, 0))) (hcs : ∀ i, i < n → ∃ s, cs[i]? = some (.string s) ∧ Short s) :
    Calls Tryz.prog 42 #[.pointer (some ⟨g, 0, none⟩), .slice (some ⟨b, 0, none⟩) n n] w fun e w' => ∃ s, e = .returned (.string s) ∧ Short s ∧ SrcIn w' g ∧ Src1 g w w' := by
  have hlt := lt_of_block hb
  have H := Lib.hid (And.intro h (And.intro hne (And.intro hb (And.intro hcs hlt))))
  clear h hne hb hcs hlt
  go_enter Tryz.func42, Tryz.ntmps42
  go_wp2_with fail
  refine (n_src (n : Int) H.out.1 (by omega) (by omega)).mono ?_
  rintro e w1 ⟨r, rfl, ⟨hr0, hr1⟩, hs, hb⟩
  obtain ⟨k, rfl⟩ : ∃ k : Nat, r = (k : Int) := ⟨r.toNat, by omega⟩
  obtain ⟨s, hk, hsh⟩ := H.out.2.2.2.1 k (by omega)
  have hcell : w1.cell? ⟨b, k, none⟩ = some (.string s) := cell_at ((hb.2 b H.out.2.2.2.2 H.out.2.1).trans H.out.2.2.1) hk
  have H1 := Lib.hid (And.intro hsh (And.intro hs hb))
  clear hs hb hk hsh
  go_wp2
  go_ret
  exact ⟨_, rfl, H1.out⟩
theorem pick_src {w : World} {g b n : Nat} {cs : Array Value} (h : SrcIn w g) (h1 : 1 ≤ n) (hn : n ≤ 100) (hne : b ≠ g) (hb : w.heap[b]? = some (.cells cs 3 (0, 0))) (hcs : ∀ i, i < n → ∃ z : Int, cs[i]? = some (.int .i64 z) ∧ 1 ≤ z ∧ z ≤ 4) :
    Calls Tryz.prog 63 #[.pointer (some ⟨g, 0, none⟩), .slice (some ⟨b, 0, none⟩) n n] w fun e w' => ∃ z, e = .returned (.int .i64 z) ∧ (1 ≤ z ∧ z ≤ 4) ∧ SrcIn w' g ∧ Src1 g w w' := by
  have hlt := lt_of_block hb
  have H := Lib.hid (And.intro h (And.intro hne (And.intro hb (And.intro hcs hlt))))
  clear h hne hb hcs hlt
  go_enter Tryz.func63, Tryz.ntmps63
  go_wp2_with fail
  refine (n_src (n : Int) H.out.1 (by omega) (by omega)).mono ?_
  rintro e w1 ⟨r, rfl, ⟨hr0, hr1⟩, hs, hb⟩
  obtain ⟨k, rfl⟩ : ∃ k : Nat, r = (k : Int) := ⟨r.toNat, by omega⟩
  obtain ⟨z, hk, hsh⟩ := H.out.2.2.2.1 k (by omega)
  have hcell : w1.cell? ⟨b, k, none⟩ = some (.int .i64 z) := cell_at ((hb.2 b H.out.2.2.2.2 H.out.2.1).trans H.out.2.2.1) hk
  have H1 := Lib.hid (And.intro hsh (And.intro hs hb))
  clear hs hb hk hsh
  go_wp2
  go_ret
  exact ⟨_, rfl, H1.out⟩
theorem range_src {w : World} {g : Nat} (h : SrcIn w g) :
    Calls Tryz.prog 61 #[.pointer (some ⟨g, 0, none⟩), .int .i64 (-9), .int .i64 9] w fun e w' => ∃ z, e = .returned (.int .i64 z) ∧ (-9 ≤ z ∧ z ≤ 9) ∧ SrcIn w' g ∧ Src1 g w w' := by
  have H := Lib.hid h
  clear h
  go_enter Tryz.func61, Tryz.ntmps61
  go_wp2_with fail
  refine (n_src 19 H.out (by omega) (by omega)).mono ?_
  rintro e w1 ⟨r, rfl, ⟨hr0, hr1⟩, hs, hb⟩
  have H1 := Lib.hid (And.intro hs hb)
  clear hs hb
  go_wp2
  go_ret
  exact ⟨_, rfl, ⟨by omega, by omega⟩, H1.out⟩
set_option linter.unusedSimpArgs false in
set_option maxHeartbeats 1600000 in
set_option maxRecDepth 100000 in
theorem oddrat_src {w : World} {g : Nat} (h : SrcIn w g) :
    Calls Tryz.prog 13 #[.pointer (some ⟨g, 0, none⟩)] w fun e w' => ∃ s, e = .returned (.string s) ∧ Short s ∧ SrcIn w' g ∧ Src1 g w w' := by
  have H := Lib.hid h
  have hg := h.lt
  clear h
  go_enter Tryz.func13, Tryz.ntmps13
  go_wp2_with fail
  refine (text_src (b := w.heap.size) (n := 13) (H.out.alloc _) (by omega) (by omega) (by omega) (heap_alloc_new w _) (fun i hi => ?_)).mono ?_
  · match i, hi with
    | 0, _ | 1, _ | 2, _ | 3, _ | 4, _ | 5, _ | 6, _ | 7, _ | 8, _ | 9, _ | 10, _ | 11, _ | 12, _ => exact ⟨_, rfl, short_of (by decide)⟩
    | i + 13, hi => exact absurd hi (by omega)
  rintro e w1 ⟨s, rfl, hsh, hs, hb⟩
  have H1 := Lib.hid (And.intro hsh (And.intro hs ((Src1.below ((Below.refl _ _).alloc (Nat.le_refl _) _) (Nat.le_of_lt hg)).trans hb)))
  clear hs hb hsh
  go_wp2
  go_ret
  exact ⟨_, rfl, H1.out⟩
set_option linter.unusedSimpArgs false in
set_option maxHeartbeats 1600000 in
set_option maxRecDepth 100000 in
theorem rat_src {w : World} {g : Nat} (h : SrcIn w g) :
    Calls Tryz.prog 41 #[.pointer (some ⟨g, 0, none⟩)] w fun e w' => ∃ t x, e = .returned (.string t) ∧ RatIs t.data.toList x ∧ F.Lt (10 ^ 1) x ∧ SrcIn w' g ∧ Src1 g w w' := by
  have H := Lib.hid h
  have hg := h.lt
  clear h
  go_enter Tryz.func41, Tryz.ntmps41
  go_wp2_with fail
  refine (range_src H.out).mono ?_
  rintro e w1 ⟨p, rfl, ⟨hp0, hp1⟩, hs, hb⟩
  have hp3 := ten_D (d := 1) (z := p) (by rw [Nat.max_self]; exact nDigits_le (by decide) (by rw [Nat.pow_one]; omega)) (by omega)
  rw [Nat.max_self] at hp3
  have hg1 : g < w1.heap.size := hs.lt
  have H1 := Lib.hid (And.intro hp3 (And.intro hs hb))
  clear hs hb hp3
  go_wp2_with fail
  refine (rof_fresh p (by omega) (by omega)).mono ?_
  rintro e w2 ⟨v, rfl, hv, hf, hb⟩
  have hB := DSz.big hv
  obtain ⟨s, hs⟩ : ∃ s, s = decide (p < 0) := ⟨_, rfl⟩
  rw [← hs] at hB ⊢
  obtain ⟨A, l, c, rfl, hv'⟩ := hv
  have hg2 : g < w2.heap.size := Nat.lt_of_lt_of_le hg1 hb.size
  have hA := (Below.refl w2.heap.size w2).alloc (Nat.le_refl _) (.cells #[.int .i64 1, .int .i64 1, .int .i64 1, .int .i64 2, .int .i64 3, .int .i64 4] 3)
  have H2 := Lib.hid (And.intro (hB.below hA (Nat.le_refl _)) (And.intro (hf.mono (show g + 1 ≤ w1.heap.size from hg1)) (And.intro ((H1.out.2.1.below hb).below hA) ((H1.out.2.2.trans (Src1.below hb (Nat.le_of_lt hg1))).trans (Src1.below hA (Nat.le_of_lt hg2))))))
  clear hv' hf hb hB hs hA
  go_wp2_with fail
  refine (pick_src (b := w2.heap.size) (n := 6) H2.out.2.2.1 (by omega) (by omega) (by omega) (heap_alloc_new w2 _) (fun i hi => ?_)).mono ?_
  · match i, hi with
    | 0, _ | 1, _ | 2, _ | 3, _ | 4, _ | 5, _ => exact ⟨_, rfl, by decide, by decide⟩
    | i + 6, hi => exact absurd hi (by omega)
  rintro e w3 ⟨q, rfl, ⟨hq0, hq1⟩, hs, hb⟩
  have hq3 := ten_D (d := 1) (z := q) (by rw [Nat.max_self]; exact nDigits_le (by decide) (by rw [Nat.pow_one]; omega)) (by omega)
  rw [Nat.max_self] at hq3
  have hq9 : q ≠ 0 := by omega
  have H3 := Lib.hid (And.intro (H2.out.1.far1 H2.out.2.1 hb) (And.intro hq3 (And.intro hq9 (And.intro hs (H2.out.2.2.2.trans hb)))))
  clear hs hb hq3 hq9
  go_wp2_with fail
  refine (dof_any q (by omega) (by omega)).mono ?_
  rintro e w4 ⟨u, rfl, hu, hb⟩
  have hg3 := H3.out.2.2.2.1.lt
  have H4 := Lib.hid (And.intro (H3.out.1.below hb (Nat.le_refl _)) (And.intro hu (And.intro (H3.out.2.2.2.1.below hb) (H3.out.2.2.2.2.trans (Src1.below hb (Nat.le_of_lt hg3))))))
  clear hu hb
  go_wp2_with fail
  refine (dnew_any (k := 12) H4.out.1 H4.out.2.1 H1.out.1.1 H3.out.2.1.1 (by omega)).mono ?_
  rintro e w5 ⟨z, rfl, hz, hb⟩
  have hg4 := H4.out.2.2.1.lt
  have H5 := Lib.hid (And.intro hz (And.intro (H4.out.2.2.1.below hb) (H4.out.2.2.2.trans (Src1.below hb (Nat.le_of_lt hg4)))))
  clear hz hb
  go_wp2_with fail
  refine (dgive_any (k := 12) H5.out.1 (divInt_lt H1.out.1.1 H3.out.2.1.1 H3.out.2.2.1) (by omega)).mono ?_
  rw [show qgive (Rat.divInt p q) = .tuple #[.string ⟨(rtx (Rat.divInt p q)).toArray⟩, .int .i64 0] from qgive_ok (k := 1) (divInt_lt H1.out.1.2.1 H3.out.2.1.2.1 H3.out.2.2.1) (by omega) (by omega)]
  rintro e w6 ⟨rfl, hb⟩
  have hg5 := H5.out.2.1.lt
  have H6 := Lib.hid (And.intro (H5.out.2.1.below hb) (H5.out.2.2.trans (Src1.below hb (Nat.le_of_lt hg5))))
  clear hb
  go_wp2
  go_ret
  exact ⟨_, _, rfl, (divInt_lt H1.out.1.2.1 H3.out.2.1.2.1 H3.out.2.2.1).text' (k := 1) (by omega) (by omega), divInt_lt H1.out.1.2.1 H3.out.2.1.2.1 H3.out.2.2.1, H6.out⟩
theorem qfloor_shape (r : Option Rat) : ∃ o c, qfloor r = .tuple #[.string o, .int .i64 c] := by
  cases r
  · exact ⟨_, _, rfl⟩
  · exact ⟨_, _, rfl⟩
theorem qdivres_two (r q : Option Rat) : ∃ o c, qdivres r q = .tuple #[.string o, .int .i64 c] := by
  cases r with
  | none => exact ⟨_, _, rfl⟩
  | some x =>
    cases q with
    | none => exact ⟨_, _, rfl⟩
    | some y =>
      show ∃ o c, (if y = 0 then (.tuple #[.string ⟨#[]⟩, .int .i64 4] : Value) else qgive (x / y)) = _
      split
      · exact ⟨_, _, rfl⟩
      · exact qgive_two _
theorem qmake_two (p q : Int) : ∃ o c, qmake p q = .tuple #[.string o, .int .i64 c] := by
  unfold qmake
  split
  · exact ⟨_, _, rfl⟩
  · exact qgive_two _
theorem qparts_tot (s : ByteArray) (hs : Short s) : ∃ a b k, (∀ w, Env w → Calls Tryz.prog 86 #[.string s] w fun e w' => e = .returned (.tuple #[.string a, .string b, .bool k]) ∧ Below w.heap.size w w') ∧
    (∀ w, Calls Tryz.prog 20 #[.string s] w fun e w' => e = .returned (.tuple #[.string a, .string b, .bool k]) ∧ Below w.heap.size w w') := by
  obtain ⟨r, hr⟩ := rd_ex s
  obtain ⟨a, b, hv⟩ := qparts_shape r
  have h1 := fun w (he : Env w) => qparts_any (w := w) s he.2 hs hr
  have h2 := fun w => dparts_any (w := w) s hs hr
  rw [hv] at h1 h2
  exact ⟨_, _, _, h1, h2⟩
theorem qvalid_tot (s : ByteArray) (hs : Short s) : ∃ k, (∀ w, Env w → Calls Tryz.prog 38 #[.string s] w fun e w' => e = .returned (.bool k) ∧ Below w.heap.size w w') ∧
    (∀ w, Calls Tryz.prog 94 #[.string s] w fun e w' => e = .returned (.bool k) ∧ Below w.heap.size w w') := by
  obtain ⟨r, hr⟩ := rd_ex s
  exact ⟨_, fun w he => qvalid_any s he.2 hs hr, fun w => dvalid_any s hs hr⟩
theorem qmake_tot (s : ByteArray) (t : ByteArray) : ∃ a k, (∀ w, Env w → Calls Tryz.prog 35 #[.string s, .string t] w fun e w' => e = .returned (.tuple #[.string a, .int .i64 k]) ∧ Below w.heap.size w w') ∧
    (∀ w, Calls Tryz.prog 19 #[.string s, .string t] w fun e w' => e = .returned (.tuple #[.string a, .int .i64 k]) ∧ Below w.heap.size w w') := by
  rcases both_cases s t with h | ⟨p, q, hs, ht, hp, hq⟩
  · exact ⟨_, _, fun w _ => qmake_bad s t h, fun w => dmake_bad s t h⟩
  · obtain ⟨a, b, hv⟩ := qmake_two p q
    have h1 := fun w (he : Env w) => qmake_any (w := w) s t he hs ht hp hq
    have h2 := fun w => dmake_ok (w := w) s t hs ht hp hq
    rw [hv] at h1 h2
    exact ⟨_, _, h1, h2⟩
end Go.Proofs.YtigplffpnbdkeaaGreatDoor
