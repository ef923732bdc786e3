/- Write and ReadRat of fractions. Fractions as they stand: read, Num, Den. -/
import Derived.Test.YtjghgbfagjhdgaaGreatDoorRatOV
namespace Go.Proofs.YtjghgbfagjhdgaaGreatDoor
open Go Go.RowKit

/-- What the program's package internal/bytealg holds for strings.Cut. -/
def Lx (w : World) : Prop := ∃ m : Int, w.cell? ⟨3, 0, none⟩ = some (.int .i64 m) ∧ 3 < w.heap.size
theorem Lx.below {w w' : World} (h : Lx w) (hb : Below w.heap.size w w') : Lx w' := by
  obtain ⟨m, h1, h2⟩ := h
  exact ⟨m, (hb.cell h2).trans h1, Nat.lt_of_lt_of_le h2 hb.size⟩
theorem itoa_len (z : Int) : (Lib.itoa z).length ≤ Lib.nDigits z.natAbs + 1 := by
  by_cases h : z < 0
  · rw [T.itoa_neg h]; simp [Lib.decDigits_length]
  · rw [T.itoa_nonneg h, Lib.decDigits_length]; omega
theorem ratIs_size {s : ByteArray} {x : Rat} (h : RatIs s.data.toList x) : s.size < 4294967281 := by
  have h1 : s.size = s.data.toList.length := by simp
  rw [h1, h.1]
  unfold rtx
  have h2 := itoa_len x.num
  have h3 := itoa_len (x.den : Int)
  rw [Int.natAbs_natCast] at h3
  have h4 := h.2.1
  have h5 := h.2.2
  split
  · omega
  · simp; omega
theorem whole_num {x : Rat} (h : x.den = 1) : ((x.num : Int) : Rat) = x := Rat.ext rfl h.symm
/-- How a fraction is given. -/
def qgive (x : Rat) : Value := if Lib.nDigits x.num.natAbs ≤ 400 ∧ Lib.nDigits x.den ≤ 400 then .tuple #[.string ⟨(rtx x).toArray⟩, .int .i64 0] else .tuple #[.string ⟨#[]⟩, .int .i64 3]
theorem rtx_bytes {x : Rat} {sa sb : ByteArray} (hsa : sa = ⟨(Lib.decDigits x.num.natAbs).toArray⟩) (hsb : sb = ⟨(Lib.decDigits x.den).toArray⟩) :
    (⟨(rtx x).toArray⟩ : ByteArray) = if x.num < 0 then (if x.den = 1 then ⟨#[45]⟩ ++ sa else ⟨#[45]⟩ ++ sa ++ ⟨#[47]⟩ ++ sb) else (if x.den = 1 then sa else sa ++ ⟨#[47]⟩ ++ sb) := by
  subst hsa hsb
  have hden : Lib.itoa (x.den : Int) = Lib.decDigits x.den := by rw [T.itoa_nonneg (by omega), Int.natAbs_natCast]
  unfold rtx
  by_cases h1 : x.num < 0 <;> by_cases h2 : x.den = 1
  · rw [if_pos h1, if_pos h2, if_pos h2, T.itoa_neg h1]; apply ByteArray.ext; simp
  · rw [if_pos h1, if_neg h2, if_neg h2, T.itoa_neg h1, hden]; apply ByteArray.ext; simp
  · rw [if_neg h1, if_pos h2, if_pos h2, T.itoa_nonneg h1]
  · rw [if_neg h1, if_neg h2, if_neg h2, T.itoa_nonneg h1, hden]; apply ByteArray.ext; simp
theorem dec_one {d : Nat} : Lib.decDigits d = [49] ↔ d = 1 := by
  constructor
  · intro h
    have e1 : Lib.decDigits 1 = [49] := by decide +kernel
    rw [← T.num_decDigits d, h, ← e1, T.num_decDigits]
  · intro h; subst h; decide +kernel
set_option linter.unusedSimpArgs false in
set_option maxHeartbeats 4000000 in
set_option maxRecDepth 100000 in
theorem qwrite_any {w : World} {a : Value} {x : Rat} {k : Nat} (ht : Tab w) (ha : IsRat w a x) (hx : F.Lt (M.B ^ k) x) (hk : k ≤ 30000) :
    Calls Tryz.prog 51 #[a] w fun e w' => e = .returned (qgive x) ∧ Below w.heap.size w w' := by
  obtain ⟨s, A, l, c, t, A', l', c', rfl⟩ := ha.shape
  obtain ⟨sa, hsa⟩ : ∃ sa : ByteArray, sa = ⟨(Lib.decDigits x.num.natAbs).toArray⟩ := ⟨_, rfl⟩
  obtain ⟨sb, hsb⟩ : ∃ sb : ByteArray, sb = ⟨(Lib.decDigits x.den).toArray⟩ := ⟨_, rfl⟩
  have ha1 : sa.size = Lib.nDigits x.num.natAbs := by rw [hsa, ← Lib.decDigits_length]; rfl
  have hb1 : sb.size = Lib.nDigits x.den := by rw [hsb, ← Lib.decDigits_length]; rfl
  obtain ⟨V, hV⟩ : ∃ V, V = qgive x := ⟨_, rfl⟩
  have HT := Lib.hid ht
  have H := Lib.hid (And.intro ha (And.intro hx (And.intro hsa (And.intro hsb (And.intro ha1 (And.intro hb1 hV))))))
  rw [← hV]
  clear ht ha hx hsa hsb hV ha1 hb1
  go_enter Tryz.func51, Tryz.ntmps51
  go_upto_region 0 with fail
  go_cut [1] from 6 (fun s1 wx => ∃ g1 : Nat, s1 = .pointer (some ⟨g1, 0, none⟩) ∧ Pls w [(g1, .rat x)] wx)
  case first =>
    go_wp2_with fail
    go_meet
    exact ⟨_, rfl, (Pls.start w).boxRat H.out.1 rfl⟩
  obtain ⟨g1, rfl, hP⟩ := hcut
  go_upto_region 1 with fail
  go_cut [4, 5] from 6 (fun s4 s5 wx => s4 = .string sa ∧ s5 = .string sb ∧ Pls w [(g1, .rat x)] wx)
  case first =>
    refine RelV.region_rest 6 [0, 1, 2, 3, 4, 5] _ rfl rfl (R := [fun v _ => v = .pointer (some ⟨g1, 0, none⟩), fun v w => IsInt w v (x).num, fun v _ => v = .string sa, fun v w => IsRat w v (x), fun v w => IsInt w v (x.den : Int), fun v _ => v = .string sb])
      (E := RE w [(g1, .rat x)] wc.heap.size 1000 1001) (T := fun w w' => Below w.heap.size w w') (by kernel_rfl) (by kernel_rfl) (by kernel_rfl) (RE.start hP 1000 1001) ?_ ?_ ?_
    · intro D vals i v w1 w2 hi hE hT hv
      match i, hi with
      | 3, _ => exact IsRat.below hv hT
      | 1, _ | 4, _ => exact IsInt.below hv hT (Nat.le_refl _)
      | 0, _ | 2, _ | 5, _ => exact hv
      | i + 6, hi => exact absurd hi (by omega)
    · refine RelV.Steps.cons (L := []) rfl (by kernel_rfl) ?_ ?_
      · intro vals w' D hE hF hR K hK
        simp only [Rel.putL, Rel.dst, z1, z2, z3, z4, Act.put, z5, z6, z7] at hK ⊢
        go_simp
        exact hK _ _ rfl (Below.refl _ _) (hE.same (by decide) (by decide))
      refine RelV.Steps.cons (L := [0]) rfl (by kernel_rfl) ?_ ?_
      · intro vals w' D hE hF hR K hK
        have d0 : vals 0 = .pointer (some ⟨g1, 0, none⟩) := hR.1
        obtain ⟨s, A, l, c, t, A', l', c', c0, c1, c2, c3, hi⟩ := hE.1.rat 0 rfl
        simp only [Rel.putL, Rel.dst, z1, z2, z3, z4, Act.put, z5, z6, z7, d0] at hK ⊢
        go_simp
        exact hK _ _ hi.num (Below.refl _ _) (hE.same (by decide) (by decide))
      refine RelV.Steps.cons (L := [1]) rfl (by kernel_rfl) ?_ ?_
      · intro vals w' D hE hF hR K hK
        have r1 := hR.1
        simp only [Rel.putL, Rel.dst, z1, z2, z3, z4, Act.put, z5, z6, z7] at hK ⊢
        go_simp
        go_at_call 123
        refine (digits_any (k := k) (HT.out.below hE.1.below) r1 H.out.2.1.1 (by omega)).mono ?_
        rintro e w2 ⟨he, hb⟩
        rw [← H.out.2.2.1] at he
        subst he
        exact hK _ _ rfl hb (hE.step hb (by decide) (by decide))
      refine RelV.Steps.cons (L := []) rfl (by kernel_rfl) ?_ ?_
      · intro vals w' D hE hF hR K hK
        obtain ⟨s, A, l, c, t, A', l', c', c0, c1, c2, c3, hi⟩ := hE.1.rat 0 rfl
        simp only [Rel.putL, Rel.dst, z1, z2, z3, z4, Act.put, z5, z6, z7] at hK ⊢
        go_simp
        exact hK _ _ hi (Below.refl _ _) (hE.same (by decide) (by decide))
      refine RelV.Steps.cons (L := [3]) rfl (by kernel_rfl) ?_ ?_
      · intro vals w' D hE hF hR K hK
        have r3 := hR.1
        simp only [Rel.putL, Rel.dst, z1, z2, z3, z4, Act.put, z5, z6, z7] at hK ⊢
        go_simp
        go_at_call 106
        refine (den_any r3).mono ?_
        rintro e w2 ⟨v, rfl, hv, hb⟩
        exact hK _ _ hv hb (hE.step hb (by decide) (by decide))
      refine RelV.Steps.cons (L := [4]) rfl (by kernel_rfl) ?_ ?_
      · intro vals w' D hE hF hR K hK
        have r4 := hR.1
        simp only [Rel.putL, Rel.dst, z1, z2, z3, z4, Act.put, z5, z6, z7] at hK ⊢
        go_simp
        go_at_call 123
        refine (digits_any (k := k) (HT.out.below hE.1.below) r4 (by rw [Int.natAbs_natCast]; exact H.out.2.1.2) (by omega)).mono ?_
        rintro e w2 ⟨he, hb⟩
        rw [Int.natAbs_natCast, ← H.out.2.2.2.1] at he
        subst he
        exact hK _ _ rfl hb (hE.step hb (by decide) (by decide))
      exact RelV.Steps.done
    · intro vals w1 D hD hE hR
      obtain ⟨r0, r1, r2, r3, r4, r5, _⟩ := hR
      have e2 : vals 2 = .string sa := r2
      have e5 : vals 5 = .string sb := r5
      simp only [Rel.putL, Rel.dst, z1, z2, z3, z4, Act.put, z5, z6, z7, e2, e5]
      have HQ := Lib.hid hE.1
      clear hE hD r0 r1 r2 r3 r4 r5 e2 e5
      go_wp2_with fail
      go_meet
      exact ⟨rfl, rfl, HQ.out⟩
  clear hP
  obtain ⟨rfl, rfl, hP⟩ := hcut
  obtain ⟨s, A, l, c, t, A', l', c', c0, c1, c2, c3, hi⟩ := hP.rat 0 rfl
  have HP := Lib.hid (And.intro hP hi)
  clear hP hi
  by_cases hbig : Lib.nDigits x.num.natAbs ≤ 400 ∧ Lib.nDigits x.den ≤ 400
  · have hVV : V = .tuple #[.string ⟨(rtx x).toArray⟩, .int .i64 0] := by rw [H.out.2.2.2.2.2.2]; exact if_pos hbig
    have h1 : sa.size ≤ 400 := by rw [H.out.2.2.2.2.1]; exact hbig.1
    have h2 : sb.size ≤ 400 := by rw [H.out.2.2.2.2.2.1]; exact hbig.2
    have hsg : sgn x.num = -1 ∧ x.num < 0 ∨ 0 ≤ sgn x.num ∧ ¬ x.num < 0 := by
      unfold sgn
      by_cases h : x.num < 0
      · exact .inl ⟨if_pos h, h⟩
      · rw [if_neg h]; exact .inr ⟨by split <;> omega, h⟩
    obtain ⟨sg, hsge⟩ : ∃ sg, sg = sgn x.num := ⟨_, rfl⟩
    rw [← hsge] at hsg
    have HV := Lib.hid (And.intro hVV hsge)
    have h1' : (sb.toList == [49]) = decide (x.den = 1) := by
      rw [Lib.toList_data, H.out.2.2.2.1]
      by_cases h : x.den = 1
      · rw [decide_eq_true h, beq_iff_eq]; exact dec_one.2 h
      · rw [decide_eq_false h, beq_eq_false_iff_ne]; exact fun e => h (dec_one.1 e)
    have HD := Lib.hid h1'
    clear hbig hVV hsge h1'
    rcases hsg with ⟨hs, hn⟩ | ⟨hs, hn⟩
    · have HN := Lib.hid hn
      by_cases hd : x.den = 1
      · have hd1 : (sb.toList == [49]) = true := by rw [HD.out]; exact decide_eq_true hd
        have HDD := Lib.hid hd
        clear hn hd
        subst hs
        go_wp2_with fail
        refine (qsign_any HP.out.2).mono ?_
        rw [← HV.out.2]
        rintro e w1 ⟨rfl, hb⟩
        have HB := Lib.hid (HP.out.1.next hb)
        clear hb c0 c1 c2 c3
        go_wp2
        go_ret2
        refine ⟨?_, HB.out.below⟩
        rw [HV.out.1, rtx_bytes H.out.2.2.1 H.out.2.2.2.1, if_pos HN.out, if_pos HDD.out]
        rfl
      · have hd1 : (sb.toList == [49]) = false := by rw [HD.out]; exact decide_eq_false hd
        have HDD := Lib.hid hd
        clear hn hd
        subst hs
        go_wp2_with fail
        refine (qsign_any HP.out.2).mono ?_
        rw [← HV.out.2]
        rintro e w1 ⟨rfl, hb⟩
        have HB := Lib.hid (HP.out.1.next hb)
        clear hb c0 c1 c2 c3
        go_wp2
        go_ret2
        refine ⟨?_, HB.out.below⟩
        rw [HV.out.1, rtx_bytes H.out.2.2.1 H.out.2.2.2.1, if_pos HN.out, if_neg HDD.out]
        rfl
    · have HN := Lib.hid hn
      by_cases hd : x.den = 1
      · have hd1 : (sb.toList == [49]) = true := by rw [HD.out]; exact decide_eq_true hd
        have HDD := Lib.hid hd
        clear hn hd
        go_wp2_with fail
        refine (qsign_any HP.out.2).mono ?_
        rw [← HV.out.2]
        rintro e w1 ⟨rfl, hb⟩
        have HB := Lib.hid (HP.out.1.next hb)
        clear hb c0 c1 c2 c3
        go_wp2
        go_ret2
        refine ⟨?_, HB.out.below⟩
        rw [HV.out.1, rtx_bytes H.out.2.2.1 H.out.2.2.2.1, if_neg (Int.not_lt.2 HN.out), if_pos HDD.out]
        rfl
      · have hd1 : (sb.toList == [49]) = false := by rw [HD.out]; exact decide_eq_false hd
        have HDD := Lib.hid hd
        clear hn hd
        go_wp2_with fail
        refine (qsign_any HP.out.2).mono ?_
        rw [← HV.out.2]
        rintro e w1 ⟨rfl, hb⟩
        have HB := Lib.hid (HP.out.1.next hb)
        clear hb c0 c1 c2 c3
        go_wp2
        go_ret2
        refine ⟨?_, HB.out.below⟩
        rw [HV.out.1, rtx_bytes H.out.2.2.1 H.out.2.2.2.1, if_neg (Int.not_lt.2 HN.out), if_neg HDD.out]
        rfl
  · have hVV : V = .tuple #[.string ⟨#[]⟩, .int .i64 3] := by rw [H.out.2.2.2.2.2.2]; exact if_neg hbig
    rw [← H.out.2.2.2.2.1, ← H.out.2.2.2.2.2.1] at hbig
    have HV := Lib.hid hVV
    have h1 : ¬ max (sa.size : Int) (sb.size : Int) ≤ 400 := by omega
    clear hVV hbig
    go_wp2
    go_ret2
    exact ⟨by rw [HV.out]; rfl, HP.out.1.below⟩

set_option linter.unusedSimpArgs false in
set_option maxHeartbeats 4000000 in
set_option maxRecDepth 100000 in
theorem readRat_any {w : World} (s : ByteArray) {x : Rat} (hm : Lx w) (hs : RatIs s.data.toList x) :
    Calls Tryz.prog 194 #[.string s] w fun e w' => ∃ v, e = .returned v ∧ IsRat w' v x ∧ Below w.heap.size w w' := by
  have hsz : s.size < 4294967281 := ratIs_size hs
  have hcut := cut_rtx x
  rw [← hs.1] at hcut
  have H := Lib.hid (And.intro hm (And.intro hs hcut))
  clear hm hs hcut
  by_cases hd : x.den = 1
  · have hc := H.out.2.2
    rw [if_pos hd] at hc
    have HD := Lib.hid (And.intro hd hc)
    clear hd hc
    go_enter Tryz.func194, Tryz.ntmps194
    go_upto_region 1 with fail
    have hP := (Pls.start w).newRhole rfl
    generalize w.alloc (.cells #[.int .i64 0, .slice none 0 0, .int .i64 0, .slice none 0 0] 90) = w0 at *
    have hm0 := H.out.1.below hP.below
    obtain ⟨m, hm, _⟩ := hm0
    go_wp2_with fail
    refine (Tryz.strings_Cut s ⟨#[47]⟩ m _ hsz hm).mono ?_
    rw [show (⟨#[47]⟩ : ByteArray).data.toList = [47] from rfl, HD.out.2]
    rintro e w1 ⟨rfl, n, rfl⟩
    have HP := Lib.hid (hP.next ((Drawn.refl w0).drewN n |>.below _))
    clear hP hm
    go_wp2_with fail
    generalize w0.drewN n = w1 at *
    clear hsz
    refine (wide_read (z := x.num) ⟨(Lib.itoa x.num).toArray⟩ (by simp) (by have := H.out.2.1.2.1; omega)).mono ?_
    rintro e w2 ⟨v, rfl, hv, hb⟩
    have H2 := Lib.hid (And.intro hv (HP.out.next hb))
    clear hv hb
    go_wp2_with fail
    refine (whole_any H2.out.1).mono ?_
    rintro e w3 ⟨u, rfl, hu, hb⟩
    have hP3 := H2.out.2.next hb
    rw [show ((x.num : Int) : Rat) = x from whole_num HD.out.1] at hu
    clear hb
    obtain ⟨sx, Ax, lx, cx, tx, Ax', lx', cx', rfl⟩ := hu.shape
    obtain ⟨m0, m1, m2, m3, d0, d1, d2, d3, f0, f1, f2, f3⟩ := hP3.rhole 0 rfl
    have HV := Lib.hid (And.intro hu hP3)
    clear hu hP3
    go_wp2
    have hF := HV.out.2.rstored 0 rfl HV.out.1
    rw [show (((w3.setCell ⟨w.heap.size, 0, none⟩ (.int .i64 sx)).setCell ⟨w.heap.size, 1, none⟩ (.slice Ax lx cx)).setCell ⟨w.heap.size, 2, none⟩ (.int .i64 tx)).setCell ⟨w.heap.size, 3, none⟩ (.slice Ax' lx' cx') = stRat w3 w.heap.size sx Ax lx cx tx Ax' lx' cx' from rfl]
    generalize stRat w3 w.heap.size sx Ax lx cx tx Ax' lx' cx' = W3 at *
    obtain ⟨z0, z1, z2, z3, z4, z5⟩ := hF
    exact bodyPost_ret (v := .agg #[.int .i64 sx, .slice Ax lx cx, .int .i64 tx, .slice Ax' lx' cx']) (by simp [results, Tryz.results194, go_sem, z0, z1, z2, z3]) rfl ⟨_, rfl, z4, z5.below⟩
  · have hc := H.out.2.2
    rw [if_neg hd] at hc
    have HD := Lib.hid (And.intro hd hc)
    clear hd hc
    go_enter Tryz.func194, Tryz.ntmps194
    go_upto_region 1 with fail
    have hP := (Pls.start w).newRhole rfl
    generalize w.alloc (.cells #[.int .i64 0, .slice none 0 0, .int .i64 0, .slice none 0 0] 90) = w0 at *
    have hm0 := H.out.1.below hP.below
    obtain ⟨m, hm, _⟩ := hm0
    go_wp2_with fail
    refine (Tryz.strings_Cut s ⟨#[47]⟩ m _ hsz hm).mono ?_
    rw [show (⟨#[47]⟩ : ByteArray).data.toList = [47] from rfl, HD.out.2]
    rintro e w1 ⟨rfl, n, rfl⟩
    have HP := Lib.hid (hP.next ((Drawn.refl w0).drewN n |>.below _))
    clear hP hm
    go_wp2_with fail
    generalize w0.drewN n = w1 at *
    clear hsz
    refine (wide_read (z := x.num) ⟨(Lib.itoa x.num).toArray⟩ (by simp) (by have := H.out.2.1.2.1; omega)).mono ?_
    rintro e w2 ⟨v, rfl, hv, hb⟩
    obtain ⟨s2, A2, l2, k2, rfl⟩ := hv.form
    have H2 := Lib.hid (And.intro hv (HP.out.next hb))
    clear hv hb
    go_wp2_with fail
    refine (wide_read (z := (x.den : Int)) ⟨(Lib.itoa (x.den : Int)).toArray⟩ (by simp) (by rw [Int.natAbs_natCast]; have := H.out.2.1.2.2; omega)).mono ?_
    rintro e w3 ⟨v, rfl, hv, hb⟩
    obtain ⟨s3, A3, l3, k3, rfl⟩ := hv.form
    have hP3 := H2.out.2.next hb
    have hu := IsRat.mk (H2.out.1.below hb (Nat.le_refl _)) hv
    clear hv hb
    obtain ⟨m0, m1, m2, m3, d0, d1, d2, d3, f0, f1, f2, f3⟩ := hP3.rhole 0 rfl
    have HV := Lib.hid (And.intro hu hP3)
    clear hu hP3
    go_wp2
    have hF := HV.out.2.rstored 0 rfl HV.out.1
    rw [show (((w3.setCell ⟨w.heap.size, 0, none⟩ (.int .i64 s2)).setCell ⟨w.heap.size, 1, none⟩ (.slice A2 l2 k2)).setCell ⟨w.heap.size, 2, none⟩ (.int .i64 s3)).setCell ⟨w.heap.size, 3, none⟩ (.slice A3 l3 k3) = stRat w3 w.heap.size s2 A2 l2 k2 s3 A3 l3 k3 from rfl]
    generalize stRat w3 w.heap.size s2 A2 l2 k2 s3 A3 l3 k3 = W3 at *
    obtain ⟨z0, z1, z2, z3, z4, z5⟩ := hF
    exact bodyPost_ret (v := .agg #[.int .i64 s2, .slice A2 l2 k2, .int .i64 s3, .slice A3 l3 k3]) (by simp [results, Tryz.results194, go_sem, z0, z1, z2, z3]) rfl ⟨_, rfl, z4, z5.below⟩
end Go.Proofs.YtjghgbfagjhdgaaGreatDoor
namespace Go.Proofs.YtjghgbfagjhdgaaGreatDoor
open Go Go.RowKit

set_option maxHeartbeats 800000 in
set_option maxRecDepth 100000 in
theorem numF_any {w : World} {v : Value} {n d : Int} (h : IsFr w v n d) :
    Calls Tryz.prog 107 #[v] w fun e w' => ∃ u, e = .returned u ∧ IsInt w' u n ∧ Below w.heap.size w w' := by
  obtain ⟨s, A, l, c, t, A', l', c', rfl⟩ := h.shape
  have H := Lib.hid h
  clear h
  go_enter Tryz.func107, Tryz.ntmps107
  go_upto_region 0 with fail
  go_cut [1, 2] from 3 (fun s1 s2 wx => ∃ g1 g2 : Nat, s1 = .pointer (some ⟨g1, 0, none⟩) ∧ s2 = .pointer (some ⟨g2, 0, none⟩) ∧ Pls w [(g1, .fr n d), (g2, .hole)] wx)
  case first =>
    go_wp2_with fail
    go_meet
    exact ⟨_, _, rfl, rfl, ((Pls.start w).boxFr H.out rfl).newHole (by simp)⟩
  case rest =>
    obtain ⟨g1, g2, rfl, rfl, hP⟩ := hcut
    obtain ⟨s, A, l, c, t, A', l', c', c0, c1, c2, c3, hr⟩ := hP.fr 0 rfl
    obtain ⟨u0, u1, d0, d1, f0, f1⟩ := hP.hole 1 rfl
    have HV := Lib.hid (And.intro hr.parts.1 hP)
    clear hr hP
    go_wp2
    have hF := HV.out.2.stored 1 rfl HV.out.1
    rw [show (wc.setCell ⟨g2, 0, none⟩ (.int .i64 s)).setCell ⟨g2, 1, none⟩ (.slice A l c) = stInt wc g2 s A l c from rfl]
    generalize stInt wc g2 s A l c = W3 at *
    obtain ⟨z0, z1, z2, z3⟩ := hF
    exact bodyPost_ret (v := .agg #[.int .i64 s, .slice A l c]) (by simp [results, Tryz.results107, go_sem, z0, z1]) rfl ⟨_, rfl, z2, z3.below⟩

set_option maxHeartbeats 800000 in
set_option maxRecDepth 100000 in
theorem denF_any {w : World} {v : Value} {n d : Int} (h : IsFr w v n d) (h0 : d ≠ 0) :
    Calls Tryz.prog 106 #[v] w fun e w' => ∃ u, e = .returned u ∧ IsInt w' u d ∧ Below w.heap.size w w' := by
  obtain ⟨s, A, l, c, t, A', l', c', rfl⟩ := h.shape
  have H := Lib.hid h
  clear h
  go_enter Tryz.func106, Tryz.ntmps106
  go_upto_region 0 with fail
  go_cut [1, 2] from 3 (fun s1 s2 wx => ∃ g1 g2 : Nat, s1 = .pointer (some ⟨g1, 0, none⟩) ∧ s2 = .pointer (some ⟨g2, 0, none⟩) ∧ Pls w [(g1, .fr n d), (g2, .hole)] wx)
  case first =>
    go_wp2_with fail
    go_meet
    exact ⟨_, _, rfl, rfl, ((Pls.start w).boxFr H.out rfl).newHole (by simp)⟩
  case rest =>
    obtain ⟨g1, g2, rfl, rfl, hP⟩ := hcut
    obtain ⟨s, A, l, c, t, A', l', c', c0, c1, c2, c3, hr⟩ := hP.fr 0 rfl
    have HP := Lib.hid (And.intro hP hr.parts.2)
    clear hP hr
    go_wp2_with fail
    refine (sign_any HP.out.2).mono ?_
    rintro e w1 ⟨rfl, hb⟩
    have HP1 := Lib.hid (HP.out.1.next hb)
    have hs : (sgn d == 0) = false := by
      unfold sgn
      rw [beq_eq_false_iff_ne]
      split <;> (try split) <;> omega
    obtain ⟨sg, hsg⟩ : ∃ sg, sg = sgn d := ⟨_, rfl⟩
    rw [← hsg] at hs ⊢
    clear hsg
    have hlt : g1 < wc.heap.size := HP.out.1.lt (p := (g1, .fr n d)) (by simp)
    have e2 := (hb.cell (p := ⟨g1, 2, none⟩) hlt).trans c2
    have e3 := (hb.cell (p := ⟨g1, 3, none⟩) hlt).trans c3
    have hd1 := HP.out.2.below hb (Nat.le_refl _)
    obtain ⟨m0, m1, d0, d1, f0, f1⟩ := HP1.out.hole 1 rfl
    have HV := Lib.hid (And.intro hd1 HP1.out)
    clear hb hd1 hlt c0 c1 c2 c3
    go_wp2
    have hF := HV.out.2.stored 1 rfl HV.out.1
    rw [show (w1.setCell ⟨g2, 0, none⟩ (.int .i64 t)).setCell ⟨g2, 1, none⟩ (.slice A' l' c') = stInt w1 g2 t A' l' c' from rfl]
    generalize stInt w1 g2 t A' l' c' = W3 at *
    obtain ⟨z0, z1, z2, z3⟩ := hF
    exact bodyPost_ret (v := .agg #[.int .i64 t, .slice A' l' c']) (by simp [results, Tryz.results106, go_sem, z0, z1]) rfl ⟨_, rfl, z2, z3.below⟩

theorem IsFr.mk {w : World} {s t : Int} {A A' : Option Addr} {l c l' c' : Nat} {n d : Int} (hn : IsInt w (.agg #[.int .i64 s, .slice A l c]) n) (hd : IsInt w (.agg #[.int .i64 t, .slice A' l' c']) d) :
    IsFr w (.agg #[.int .i64 s, .slice A l c, .int .i64 t, .slice A' l' c']) n d := ⟨s, A, l, c, t, A', l', c', rfl, hn, hd⟩
set_option maxHeartbeats 4000000 in
set_option maxRecDepth 100000 in
theorem readRat_raw {w : World} (s : ByteArray) {n d : Int} (hm : Lx w) (hsz : s.size < 4294967281) (hc : Lib.cut s.data.toList [47] = (Lib.itoa n, Lib.itoa d, true)) (hn : Lib.nDigits n.natAbs ≤ 400) (hd : Lib.nDigits d.natAbs ≤ 400) :
    Calls Tryz.prog 194 #[.string s] w fun e w' => ∃ v, e = .returned v ∧ IsFr w' v n d ∧ Below w.heap.size w w' := by
  have H := Lib.hid (And.intro hm (And.intro hc (And.intro hn hd)))
  clear hm hc hn hd
  go_enter Tryz.func194, Tryz.ntmps194
  go_upto_region 1 with fail
  have hP := (Pls.start w).newRhole rfl
  generalize w.alloc (.cells #[.int .i64 0, .slice none 0 0, .int .i64 0, .slice none 0 0] 90) = w0 at *
  have hm0 := H.out.1.below hP.below
  obtain ⟨m, hm, _⟩ := hm0
  go_wp2_with fail
  refine (Tryz.strings_Cut s ⟨#[47]⟩ m _ hsz hm).mono ?_
  rw [show (⟨#[47]⟩ : ByteArray).data.toList = [47] from rfl, H.out.2.1]
  rintro e w1 ⟨rfl, nd, rfl⟩
  have HP := Lib.hid (hP.next ((Drawn.refl w0).drewN nd |>.below _))
  clear hP hm
  go_wp2_with fail
  generalize w0.drewN nd = w1 at *
  clear hsz
  refine (wide_read (z := n) ⟨(Lib.itoa n).toArray⟩ (by simp) (by have := H.out.2.2.1; omega)).mono ?_
  rintro e w2 ⟨v, rfl, hv, hb⟩
  obtain ⟨s2, A2, l2, k2, rfl⟩ := hv.form
  have H2 := Lib.hid (And.intro hv (HP.out.next hb))
  clear hv hb
  go_wp2_with fail
  refine (wide_read (z := d) ⟨(Lib.itoa d).toArray⟩ (by simp) (by have := H.out.2.2.2; omega)).mono ?_
  rintro e w3 ⟨v, rfl, hv, hb⟩
  obtain ⟨s3, A3, l3, k3, rfl⟩ := hv.form
  have hP3 := H2.out.2.next hb
  have hu := IsFr.mk (H2.out.1.below hb (Nat.le_refl _)) hv
  clear hv hb
  obtain ⟨m0, m1, m2, m3, d0, d1, d2, d3, f0, f1, f2, f3⟩ := hP3.rhole 0 rfl
  have HV := Lib.hid (And.intro hu hP3)
  clear hu hP3
  go_wp2
  have hF := HV.out.2.frstored 0 rfl HV.out.1
  rw [show (((w3.setCell ⟨w.heap.size, 0, none⟩ (.int .i64 s2)).setCell ⟨w.heap.size, 1, none⟩ (.slice A2 l2 k2)).setCell ⟨w.heap.size, 2, none⟩ (.int .i64 s3)).setCell ⟨w.heap.size, 3, none⟩ (.slice A3 l3 k3) = stRat w3 w.heap.size s2 A2 l2 k2 s3 A3 l3 k3 from rfl]
  generalize stRat w3 w.heap.size s2 A2 l2 k2 s3 A3 l3 k3 = W3 at *
  obtain ⟨z0, z1, z2, z3, z4, z5⟩ := hF
  exact bodyPost_ret (v := .agg #[.int .i64 s2, .slice A2 l2 k2, .int .i64 s3, .slice A3 l3 k3]) (by simp [results, Tryz.results194, go_sem, z0, z1, z2, z3]) rfl ⟨_, rfl, z4, z5.1⟩
end Go.Proofs.YtjghgbfagjhdgaaGreatDoor
