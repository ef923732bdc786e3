/- Times of integers. -/
import Derived.Test.YtjghgbfagjhdgaaGreatDoorIntC
import Derived.Test.YtjghgbfagjhdgaaGreatDoorDivs
namespace Go.Proofs.YtjghgbfagjhdgaaGreatDoor
open Go Go.RowKit

theorem word_bounds {p : Int} (h : p.natAbs ≤ 4611686018427387903) : -9223372036854775808 ≤ p ∧ p ≤ 9223372036854775807 := by omega
set_option maxHeartbeats 1600000 in
set_option maxRecDepth 100000 in
theorem times_small {w : World} {a b : Value} {p q : Int} (ha : IsInt w a p) (hb : IsInt w b q) (hp : p.natAbs ≤ 4611686018427387903) (hq : q.natAbs ≤ 4611686018427387903) (hpq : p.natAbs * q.natAbs ≤ 4611686018427387903) :
    Calls Tryz.prog 49 #[a, b] w fun e w' => ∃ v, e = .returned v ∧ IsInt w' v (p * q) ∧ Below w.heap.size w w' := by
  have hab : (p * q).natAbs ≤ 4611686018427387903 := by rw [Int.natAbs_mul]; exact hpq
  obtain ⟨r, hr⟩ : ∃ r, r = p * q := ⟨_, rfl⟩
  rw [← hr] at hab ⊢
  have r1 : -9223372036854775808 ≤ r := by omega
  have r2 : r ≤ 9223372036854775807 := by omega
  have hr' : p * q = r := hr.symm
  obtain ⟨m, hm⟩ : ∃ m, m = p.natAbs := ⟨_, rfl⟩
  obtain ⟨n, hn⟩ : ∃ n, n = q.natAbs := ⟨_, rfl⟩
  have hmn : m * n ≤ 4611686018427387903 := by rw [hm, hn]; exact hpq
  have m1 : m ≤ 18446744073709551615 := by omega
  have n1 : n ≤ 18446744073709551615 := by omega
  have hhi : m * n / 18446744073709551616 = 0 := by generalize m * n = z at *; omega
  have hlo : m * n % 18446744073709551616 = m * n := by generalize m * n = z at *; omega
  obtain ⟨z, hz⟩ : ∃ z, z = m * n := ⟨_, rfl⟩
  have hz1 : z ≤ 4611686018427387903 := by omega
  rw [← hz] at hhi hlo
  have HM := Lib.hid (And.intro hm (And.intro hn (And.intro hz (And.intro hhi hlo))))
  have H := Lib.hid (And.intro ha (And.intro hb (And.intro hp (And.intro hq (And.intro (word_bounds hp) (And.intro (word_bounds hq) hab))))))
  obtain ⟨A, l, c, rfl, ha1⟩ := ha.shape_s (wrd_short hp).symm
  obtain ⟨A', l', c', rfl, hb1⟩ := hb.shape_s (wrd_short hq).symm
  clear ha hb ha1 hb1 hp hq hr hpq hab hm hn hmn hhi hlo hz
  go_enter Tryz.func49, Tryz.ntmps49
  go_wp2_with fail
  change Calls _ _ _ (box3 w p q (.slice A l c) (.slice A' l' c')) _
  have h0 := box3_two w p q (.slice A l c) (.slice A' l' c')
  generalize box3 w p q (.slice A l c) (.slice A' l' c') = W0 at *
  refine (short_yes (H.out.1.below h0.below (Nat.le_refl _)) H.out.2.2.1).mono ?_
  rintro e W1 ⟨rfl, hb1⟩
  have h1 := h0.next hb1 (Nat.le_refl _)
  have b0 := h1.b0
  have b1 := h1.b1
  clear h0 hb1
  go_wp2_with fail
  refine (short_yes (H.out.2.1.below h1.below (Nat.le_refl _)) H.out.2.2.2.1).mono ?_
  rintro e W2 ⟨rfl, hb1⟩
  have hB := h1.next hb1 (Nat.le_refl _)
  have hD := hB.drew
  clear b0 b1 h1 hb1
  go_wp2_with fail
  go_region_held3 (fun w' => w'.cell? ⟨w.heap.size, 0, none⟩ = some (.int .i64 p) ∧ w'.cell? ⟨w.heap.size, 1, none⟩ = some (.slice A l c) ∧ w'.cell? ⟨w.heap.size + 1, 0, none⟩ = some (.int .i64 q) ∧ w'.cell? ⟨w.heap.size + 1, 1, none⟩ = some (.slice A' l' c') ∧ Two w w' p q (.slice A l c) (.slice A' l' c'))
    (exact ⟨hD.a0, hD.a1, hD.b0, hD.b1, hD⟩)
    (first
      | (go_at_call 116; go_split_ands; ((with_reducible refine (magnitude_any p H.out.2.2.2.2.1.1 H.out.2.2.2.2.1.2).mono ?_); rw [← HM.out.1]; rintro e w1 ⟨rfl, rfl⟩))
      | (go_at_call 116; go_split_ands; ((with_reducible refine (magnitude_any q H.out.2.2.2.2.2.1.1 H.out.2.2.2.2.2.1.2).mono ?_); rw [← HM.out.2.1]; rintro e w1 ⟨rfl, rfl⟩))
      | (go_at_call 118; go_split_ands; ((with_reducible refine (mul64_any m n m1 n1).mono ?_); rw [← HM.out.2.2.1, HM.out.2.2.2.1, HM.out.2.2.2.2]; rintro e w1 ⟨rfl, rfl⟩)))
  have a0 := hD.a0
  have b0 := hD.b0
  obtain ⟨v0, c0⟩ := hD.r.c0
  obtain ⟨v1, c1⟩ := hD.r.c1
  have f0 := hD.r.f0
  have f1 := hD.r.f1
  have HF := Lib.hid (And.intro (hD.r.put0 r none 0 0) (And.intro (hD.r.put1 r none 0 0) (hD.put r none 0 0).below))
  clear hB hD
  generalize W2.drew = W3 at *
  go_wp2
  rw [show (W3.setCell ⟨w.heap.size + 1 + 1, 0, none⟩ (.int .i64 r)).setCell ⟨w.heap.size + 1 + 1, 1, none⟩ (.slice none 0 0) = setInt W3 (w.heap.size + 1 + 1) r none 0 0 from rfl]
  obtain ⟨z0, z1, z3⟩ := HF.out
  generalize setInt W3 (w.heap.size + 1 + 1) r none 0 0 = W4 at *
  exact bodyPost_ret (v := .agg #[.int .i64 r, .slice none 0 0]) (by simp [results, Tryz.results49, go_sem, z0, z1]) rfl ⟨_, rfl, IsInt.short _ H.out.2.2.2.2.2.2, z3⟩

set_option maxHeartbeats 3200000 in
set_option maxRecDepth 100000 in
theorem times_big {w : World} {a b : Value} {p q : Int} {k : Nat} (ha : IsInt w a p) (hb : IsInt w b q) (hp : p.natAbs < M.B ^ k) (hq : q.natAbs < M.B ^ k) (hk : k ≤ 29000)
    (hpq : ¬ (p.natAbs ≤ 4611686018427387903 ∧ q.natAbs ≤ 4611686018427387903 ∧ p.natAbs * q.natAbs ≤ 4611686018427387903)) :
    Calls Tryz.prog 49 #[a, b] w fun e w' => ∃ v, e = .returned v ∧ IsInt w' v (p * q) ∧ Below w.heap.size w w' := by
  have H := Lib.hid (And.intro ha (And.intro hb hpq))
  obtain ⟨s, hs⟩ : ∃ s, s = wrd p := ⟨_, rfl⟩
  obtain ⟨t, ht⟩ : ∃ t, t = wrd q := ⟨_, rfl⟩
  obtain ⟨A, l, c, rfl, ha1⟩ := ha.shape_s hs
  obtain ⟨A', l', c', rfl, hb1⟩ := hb.shape_s ht
  obtain ⟨r, hr⟩ : ∃ r, r = wrd (p * q) := ⟨_, rfl⟩
  obtain ⟨sp, hsp⟩ : ∃ sp, sp = sgn p := ⟨_, rfl⟩
  obtain ⟨sq, hsq⟩ : ∃ sq, sq = sgn q := ⟨_, rfl⟩
  have HRR := Lib.hid hr
  have HS := Lib.hid (And.intro hs (And.intro ht (And.intro hsp hsq)))
  clear ha hb ha1 hb1 hs ht hr hsp hsq hpq
  rcases Classical.em (p.natAbs ≤ 4611686018427387903) with hps | h3p
  rcases Classical.em (q.natAbs ≤ 4611686018427387903) with h1q | h2q
  all_goals first
    | (have h1p := hps
       have h1q' := h1q
       clear h1q'
       clear hps
       have hes : s = p := by rw [HS.out.1]; exact wrd_short h1p
       have het : t = q := by rw [HS.out.2.1]; exact wrd_short h1q
       obtain ⟨m, hm⟩ : ∃ m, m = s.natAbs := ⟨_, rfl⟩
       obtain ⟨n, hn⟩ : ∃ n, n = t.natAbs := ⟨_, rfl⟩
       have m1 : m ≤ 18446744073709551615 := by omega
       have n1 : n ≤ 18446744073709551615 := by omega
       have hbig : ¬ m * n ≤ 4611686018427387903 := by rw [hm, hn, hes, het]; exact fun h => H.out.2.2 ⟨h1p, h1q, h⟩
       obtain ⟨hi, hhi⟩ : ∃ hi, hi = m * n / 18446744073709551616 := ⟨_, rfl⟩
       obtain ⟨lo, hlo⟩ : ∃ lo, lo = m * n % 18446744073709551616 := ⟨_, rfl⟩
       have hcase : hi = 0 → ¬ lo ≤ 4611686018427387903 := by generalize m * n = z at *; omega
       have bs : -9223372036854775808 ≤ s ∧ s ≤ 9223372036854775807 := by rw [hes]; exact word_bounds h1p
       have bt : -9223372036854775808 ≤ t ∧ t ≤ 9223372036854775807 := by rw [het]; exact word_bounds h1q
       have HPQ := Lib.hid (And.intro h1p (And.intro h1q (And.intro hm (And.intro hn (And.intro hhi (And.intro hlo (And.intro bs bt)))))))
       have HC := Lib.hid hcase
       clear h1p h1q hm hn hhi hlo hcase hbig bs bt hes het
       go_enter Tryz.func49, Tryz.ntmps49
       go_wp2_with fail
       change Calls _ _ _ (box3 w s t (.slice A l c) (.slice A' l' c')) _
       have h0 := box3_two w s t (.slice A l c) (.slice A' l' c')
       generalize box3 w s t (.slice A l c) (.slice A' l' c') = W0 at *
       refine (short_yes (H.out.1.below h0.below (Nat.le_refl _)) HPQ.out.1).mono ?_
       rintro e W1 ⟨rfl, hb1⟩
       have h1 := h0.next hb1 (Nat.le_refl _)
       have b0 := h1.b0
       have b1 := h1.b1
       clear h0 hb1
       go_wp2_with fail
       refine (short_yes (H.out.2.1.below h1.below (Nat.le_refl _)) HPQ.out.2.1).mono ?_
       rintro e W2 ⟨rfl, hb1⟩
       have hB0 := h1.next hb1 (Nat.le_refl _)
       have hD0 := hB0.drew
       clear b0 b1 h1 hb1
       go_wp2_with fail
       go_region_held3 (fun w' => w'.cell? ⟨w.heap.size, 0, none⟩ = some (.int .i64 s) ∧ w'.cell? ⟨w.heap.size, 1, none⟩ = some (.slice A l c) ∧ w'.cell? ⟨w.heap.size + 1, 0, none⟩ = some (.int .i64 t) ∧ w'.cell? ⟨w.heap.size + 1, 1, none⟩ = some (.slice A' l' c') ∧ Two w w' s t (.slice A l c) (.slice A' l' c'))
         (exact ⟨hD0.a0, hD0.a1, hD0.b0, hD0.b1, hD0⟩)
         (first
           | (go_at_call 116; go_split_ands; ((with_reducible refine (magnitude_any s HPQ.out.2.2.2.2.2.2.1.1 HPQ.out.2.2.2.2.2.2.1.2).mono ?_); rw [← HPQ.out.2.2.1]; rintro e w1 ⟨rfl, rfl⟩))
           | (go_at_call 116; go_split_ands; ((with_reducible refine (magnitude_any t HPQ.out.2.2.2.2.2.2.2.1 HPQ.out.2.2.2.2.2.2.2.2).mono ?_); rw [← HPQ.out.2.2.2.1]; rintro e w1 ⟨rfl, rfl⟩))
           | (go_at_call 118; go_split_ands; ((with_reducible refine (mul64_any m n m1 n1).mono ?_); rw [← HPQ.out.2.2.2.2.1, ← HPQ.out.2.2.2.2.2.1]; rintro e w1 ⟨rfl, rfl⟩)))
       have hB := hD0
       clear hB0 hD0
       generalize W2.drew = W2 at *
       clear m1 n1
       rcases Nat.eq_zero_or_pos hi with hz | hz
       all_goals first
         | (have hlo : ¬ (lo : Int) ≤ 4611686018427387903 := by have := HC.out hz; omega
            subst hz)
         | (have hhz : ((hi : Int) == 0) = false := by rw [beq_eq_false_iff_ne]; omega
            clear hz))
    | (have h2q' := h2q
       have h2p := hps
       clear hps h2q'
       have HPQ := Lib.hid (And.intro h2p h2q)
       clear h2p h2q
       go_enter Tryz.func49, Tryz.ntmps49
       go_wp2_with fail
       change Calls _ _ _ (box3 w s t (.slice A l c) (.slice A' l' c')) _
       have h0 := box3_two w s t (.slice A l c) (.slice A' l' c')
       generalize box3 w s t (.slice A l c) (.slice A' l' c') = W0 at *
       refine (short_yes (H.out.1.below h0.below (Nat.le_refl _)) HPQ.out.1).mono ?_
       rintro e W1 ⟨rfl, hb1⟩
       have h1 := h0.next hb1 (Nat.le_refl _)
       have b0 := h1.b0
       have b1 := h1.b1
       clear h0 hb1
       go_wp2_with fail
       refine (short_no (H.out.2.1.below h1.below (Nat.le_refl _)) HPQ.out.2).mono ?_
       rintro e W2 ⟨rfl, hb1⟩
       have hB := h1.next hb1 (Nat.le_refl _)
       clear b0 b1 h1 hb1)
    | (have h3p' := h3p
       clear h3p'
       have HPQ := Lib.hid h3p
       clear h3p
       go_enter Tryz.func49, Tryz.ntmps49
       go_wp2_with fail
       change Calls _ _ _ (box3 w s t (.slice A l c) (.slice A' l' c')) _
       have h0 := box3_two w s t (.slice A l c) (.slice A' l' c')
       generalize box3 w s t (.slice A l c) (.slice A' l' c') = W0 at *
       refine (short_no (H.out.1.below h0.below (Nat.le_refl _)) HPQ.out).mono ?_
       rintro e W2 ⟨rfl, hb1⟩
       have hB := h0.next hb1 (Nat.le_refl _)
       clear h0 hb1)
  all_goals
    have a0 := hB.a0
    have a1 := hB.a1
    have b0 := hB.b0
    have b1 := hB.b1
    go_wp2_with fail
    have hD := hB.drew
    have HSUM := Lib.hid (show withSign (sp != sq) (p.natAbs * q.natAbs) = p * q by rw [HS.out.2.2.1, HS.out.2.2.2]; exact sgn_ne)
    go_region_held3 (fun w' => w'.cell? ⟨w.heap.size, 0, none⟩ = some (.int .i64 s) ∧ w'.cell? ⟨w.heap.size, 1, none⟩ = some (.slice A l c) ∧ w'.cell? ⟨w.heap.size + 1, 0, none⟩ = some (.int .i64 t) ∧ w'.cell? ⟨w.heap.size + 1, 1, none⟩ = some (.slice A' l' c') ∧ Two w w' s t (.slice A l c) (.slice A' l' c'))
      (first | exact ⟨q7.a0, q7.a1, q7.b0, q7.b1, q7⟩ | exact ⟨q6.a0, q6.a1, q6.b0, q6.b1, q6⟩ | exact ⟨q5.a0, q5.a1, q5.b0, q5.b1, q5⟩ | exact ⟨q4.a0, q4.a1, q4.b0, q4.b1, q4⟩ | exact ⟨q3.a0, q3.a1, q3.b0, q3.b1, q3⟩ | exact ⟨q2.a0, q2.a1, q2.b0, q2.b1, q2⟩ | exact ⟨q1.a0, q1.a1, q1.b0, q1.b1, q1⟩ | exact ⟨hD.a0, hD.a1, hD.b0, hD.b1, hD⟩)
      (first
        | (go_at_call 111; go_split_ands; ((with_reducible refine (sign_any (H.out.1.below hD.below (Nat.le_refl _))).mono ?_); rw [← HS.out.2.2.1]; rintro e w1 ⟨rfl, hb1⟩; have q1 : Two w w1 s t (.slice A l c) (.slice A' l' c') := Two.next hD hb1 (Nat.le_refl _)))
        | (go_at_call 111; go_split_ands; ((with_reducible refine (sign_any (H.out.2.1.below q1.below (Nat.le_refl _))).mono ?_); rw [← HS.out.2.2.2]; rintro e w2 ⟨rfl, hb2⟩; have q2 : Two w w2 s t (.slice A l c) (.slice A' l' c') := Two.next q1 hb2 (Nat.le_refl _)))
        | (go_at_call 119; go_split_ands; ((with_reducible refine (limbs_any (H.out.1.below q2.below (Nat.le_refl _))).mono ?_); rintro e w3 ⟨x, rfl, hx, hb3⟩; obtain ⟨X, lx, cx, rfl⟩ := hx.shape; have q3 : Two w w3 s t (.slice A l c) (.slice A' l' c') := Two.next q2 hb3 (Nat.le_refl _)))
        | (go_at_call 119; go_split_ands; ((with_reducible refine (limbs_any (H.out.2.1.below q3.below (Nat.le_refl _))).mono ?_); rintro e w4 ⟨y, rfl, hy, hb4⟩; obtain ⟨Y, ly, cy, rfl⟩ := hy.shape; have HX := Lib.hid (And.intro (hx.below hb4 (Nat.le_refl _)) hy); clear hx hy; have q4 : Two w w4 s t (.slice A l c) (.slice A' l' c') := Two.next q3 hb4 (Nat.le_refl _)))
        | (go_at_call 120; go_split_ands; ((with_reducible refine (times_nat (k := k) HX.out.1 HX.out.2 hp hq (by omega)).mono ?_); rintro e w5 ⟨u, rfl, hu, hb5⟩; have HU := Lib.hid hu; clear hu; have q5 : Two w w5 s t (.slice A l c) (.slice A' l' c') := Two.next q4 hb5 (Nat.le_refl _)))
        | (go_at_call 114; go_split_ands; ((with_reducible refine (signed_any (k := k + k) _ HU.out (prod_lt hp hq) (by omega)).mono ?_); rintro e w6 ⟨v, rfl, hv, hb6⟩; rw [HSUM.out] at hv; have q6 : Two w w6 s t (.slice A l c) (.slice A' l' c') := Two.next q5 hb6 (Nat.le_refl _); obtain ⟨X6, l6, c6, rfl, hv6⟩ := hv.shape_s HRR.out; have HV := Lib.hid hv6; clear hv hv6; obtain ⟨v0, c0⟩ := q6.r.c0; obtain ⟨v1, c1⟩ := q6.r.c1; have f0 := q6.r.f0; have f1 := q6.r.f1; have q7 := q6.put r X6 l6 c6)))
    go_wp2
    have HF := Lib.hid (And.intro (q6.r.put0 r X6 l6 c6) (And.intro (q6.r.put1 r X6 l6 c6) (And.intro (q6.r.size HV.out r X6 l6 c6) q7.below)))
    rw [show (w6.setCell ⟨w.heap.size + 1 + 1, 0, none⟩ (.int .i64 r)).setCell ⟨w.heap.size + 1 + 1, 1, none⟩ (.slice X6 l6 c6) = setInt w6 (w.heap.size + 1 + 1) r X6 l6 c6 from rfl]
    clear q7
    obtain ⟨z0, z1, z2, z3⟩ := HF.out
    generalize setInt w6 (w.heap.size + 1 + 1) r X6 l6 c6 = W3 at *
    exact bodyPost_ret (v := .agg #[.int .i64 r, .slice X6 l6 c6]) (by simp [results, Tryz.results49, go_sem, z0, z1]) rfl ⟨_, rfl, ⟨X6, l6, c6, by rw [HRR.out], z2⟩, z3⟩

/-- Times. -/
theorem times_int {w : World} {a b : Value} {p q : Int} {k : Nat} (ha : IsInt w a p) (hb : IsInt w b q) (hp : p.natAbs < M.B ^ k) (hq : q.natAbs < M.B ^ k) (hk : k ≤ 29000) :
    Calls Tryz.prog 49 #[a, b] w fun e w' => ∃ v, e = .returned v ∧ IsInt w' v (p * q) ∧ Below w.heap.size w w' := by
  by_cases h : p.natAbs ≤ 4611686018427387903 ∧ q.natAbs ≤ 4611686018427387903 ∧ p.natAbs * q.natAbs ≤ 4611686018427387903
  · exact times_small ha hb h.1 h.2.1 h.2.2
  · exact times_big ha hb hp hq hk h
end Go.Proofs.YtjghgbfagjhdgaaGreatDoor
