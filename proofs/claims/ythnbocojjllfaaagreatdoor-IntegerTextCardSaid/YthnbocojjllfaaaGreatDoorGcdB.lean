/- Gcd of integers. Gcd. -/
import Derived.Test.YthnbocojjllfaaaGreatDoorGcdN
import Derived.Test.YthnbocojjllfaaaGreatDoorIntC
import Derived.IntWalk
import Derived.Test.YthnbocojjllfaaaGreatDoorDivD
namespace Go.Proofs.YthnbocojjllfaaaGreatDoor
open Go Go.RowKit

set_option maxHeartbeats 1600000 in
set_option maxRecDepth 100000 in
theorem gcd_int_short {w : World} {a b : Value} {p q : Int} (ha : IsInt w a p) (hb : IsInt w b q) (hp : p.natAbs ≤ 4611686018427387903) (hq : q.natAbs ≤ 4611686018427387903) :
    Calls Tryz.prog 102 #[a, b] w fun e w' => ∃ v, e = .returned v ∧ IsInt w' v ((Nat.gcd p.natAbs q.natAbs : Nat) : Int) ∧ Below w.heap.size w w' := by
  obtain ⟨m, hm⟩ : ∃ m, m = p.natAbs := ⟨_, rfl⟩
  obtain ⟨n, hn⟩ : ∃ n, n = q.natAbs := ⟨_, rfl⟩
  obtain ⟨G, hG⟩ : ∃ G, G = Nat.gcd m n := ⟨_, rfl⟩
  have hGb : G ≤ 4611686018427387903 := by
    rw [hG]
    rcases Nat.eq_zero_or_pos m with h | h
    · rw [h, Nat.gcd_zero_left]; omega
    · exact Nat.le_trans (Nat.gcd_le_left n h) (by omega)
  have b1 : m < M.B * M.B := by rw [M.B_eq]; omega
  have b2 : n < M.B * M.B := by rw [M.B_eq]; omega
  have wG : IntKind.i64.wrap (G : Int) = (G : Int) := IntWalk.i64_in _ (by omega)
  rw [← hm, ← hn, ← hG]
  have p1 : -9223372036854775808 ≤ p := by omega
  have p2 : p ≤ 9223372036854775807 := by omega
  have q1' : -9223372036854775808 ≤ q := by omega
  have q2' : q ≤ 9223372036854775807 := by omega
  have H := Lib.hid (And.intro ha (And.intro hb (And.intro hp (And.intro hq (And.intro hm (And.intro hn hG))))))
  obtain ⟨A, l, c, rfl, ha1⟩ := ha.shape_s (wrd_short hp).symm
  obtain ⟨A', l', c', rfl, hb1⟩ := hb.shape_s (wrd_short hq).symm
  clear ha hb ha1 hb1 hp hq hm hn hG
  go_enter Tryz.func102, Tryz.ntmps102
  go_wp2_with fail
  change Calls _ _ _ (box3 w p q (.slice A l c) (.slice A' l' c')) _
  have h0 := box3_two w p q (.slice A l c) (.slice A' l' c')
  generalize box3 w p q (.slice A l c) (.slice A' l' c') = W0 at *
  refine (short_yes (H.out.1.below h0.below (Nat.le_refl _)) H.out.2.2.1).mono ?_
  rintro e W1 ⟨rfl, hb1⟩
  have h1 := h0.next hb1 (Nat.le_refl _)
  have b0 := h1.b0
  have b1' := h1.b1
  clear h0 hb1
  go_wp2_with fail
  refine (short_yes (H.out.2.1.below h1.below (Nat.le_refl _)) H.out.2.2.2.1).mono ?_
  rintro e W2 ⟨rfl, hb1⟩
  have hB := h1.next hb1 (Nat.le_refl _)
  have hD := hB.drew
  clear b0 b1' h1 hb1
  go_wp2_with fail
  go_region_held3 (fun w' => w'.cell? ⟨w.heap.size, 0, none⟩ = some (.int .i64 p) ∧ w'.cell? ⟨w.heap.size, 1, none⟩ = some (.slice A l c) ∧ w'.cell? ⟨w.heap.size + 1, 0, none⟩ = some (.int .i64 q) ∧ w'.cell? ⟨w.heap.size + 1, 1, none⟩ = some (.slice A' l' c') ∧ Two w w' p q (.slice A l c) (.slice A' l' c'))
    (first | exact ⟨k7.a0, k7.a1, k7.b0, k7.b1, k7⟩ | exact ⟨k6.a0, k6.a1, k6.b0, k6.b1, k6⟩ | exact ⟨hD.a0, hD.a1, hD.b0, hD.b1, hD⟩)
    (first
      | (go_at_call 144; go_split_ands; ((with_reducible refine (magnitude_any p p1 p2).mono ?_); rw [← H.out.2.2.2.2.1]; rintro e w1 ⟨rfl, rfl⟩))
      | (go_at_call 144; go_split_ands; ((with_reducible refine (magnitude_any q q1' q2').mono ?_); rw [← H.out.2.2.2.2.2.1]; rintro e w1 ⟨rfl, rfl⟩))
      | (go_at_call 160; go_split_ands; ((with_reducible refine (gcd64_any m n b1 b2).mono ?_); rw [← H.out.2.2.2.2.2.2]; rintro e w6 ⟨rfl, hd6⟩; have k6 : Two w w6 p q (.slice A l c) (.slice A' l' c') := Two.next hD (hd6.below _) (Nat.le_refl _); obtain ⟨v0, c0⟩ := k6.r.c0; obtain ⟨v1, c1⟩ := k6.r.c1; have f0 := k6.r.f0; have f1 := k6.r.f1; have k7 := k6.put (G : Int) none 0 0)))
  go_wp2
  have HF := Lib.hid (And.intro (k6.r.put0 (G : Int) none 0 0) (And.intro (k6.r.put1 (G : Int) none 0 0) k7.below))
  rw [show (w6.setCell ⟨w.heap.size + 1 + 1, 0, none⟩ (.int .i64 (G : Int))).setCell ⟨w.heap.size + 1 + 1, 1, none⟩ (.slice none 0 0) = setInt w6 (w.heap.size + 1 + 1) (G : Int) none 0 0 from rfl]
  clear k7
  obtain ⟨z0, z1, z3⟩ := HF.out
  generalize setInt w6 (w.heap.size + 1 + 1) (G : Int) none 0 0 = W4 at *
  exact bodyPost_ret (v := .agg #[.int .i64 (G : Int), .slice none 0 0]) (by simp [results, Tryz.results102, go_sem, z0, z1]) rfl ⟨_, rfl, IsInt.short _ (by omega), z3⟩

set_option maxHeartbeats 3200000 in
set_option maxRecDepth 100000 in
theorem gcd_int_long {w : World} {a b : Value} {p q : Int} {k : Nat} (ha : IsInt w a p) (hb : IsInt w b q) (hp : p.natAbs < M.B ^ k) (hq : q.natAbs < M.B ^ k) (hk1 : 1 ≤ k) (hk : k ≤ 29000)
    (hl : ¬ (p.natAbs ≤ 4611686018427387903 ∧ q.natAbs ≤ 4611686018427387903)) :
    Calls Tryz.prog 102 #[a, b] w fun e w' => ∃ v, e = .returned v ∧ IsInt w' v ((Nat.gcd p.natAbs q.natAbs : Nat) : Int) ∧ Below w.heap.size w w' := by
  obtain ⟨G, hG⟩ : ∃ G, G = Nat.gcd p.natAbs q.natAbs := ⟨_, rfl⟩
  have hGb : G < M.B ^ k := by
    rw [hG]
    rcases Nat.eq_zero_or_pos p.natAbs with h | h
    · rw [h, Nat.gcd_zero_left]; exact hq
    · exact Nat.lt_of_le_of_lt (Nat.gcd_le_left _ h) hp
  rw [← hG]
  have HGG := Lib.hid (And.intro hG hGb)
  have H := Lib.hid (And.intro ha (And.intro hb hl))
  obtain ⟨s, hs⟩ : ∃ s, s = wrd p := ⟨_, rfl⟩
  obtain ⟨t, ht⟩ : ∃ t, t = wrd q := ⟨_, rfl⟩
  obtain ⟨A, l, c, rfl, ha1⟩ := ha.shape_s hs
  obtain ⟨A', l', c', rfl, hb1⟩ := hb.shape_s ht
  obtain ⟨r, hr⟩ : ∃ r, r = wrd (G : Int) := ⟨_, rfl⟩
  have HRR := Lib.hid hr
  clear ha hb ha1 hb1 hs ht hl hr hG hGb
  rcases Classical.em (p.natAbs ≤ 4611686018427387903) with hps | h3p
  focus
    have h2q : ¬ q.natAbs ≤ 4611686018427387903 := fun h => H.out.2.2 ⟨hps, h⟩
    have HPQ := Lib.hid (And.intro hps h2q)
    clear hps h2q
    go_enter Tryz.func102, Tryz.ntmps102
    go_wp2_with fail
    change Calls _ _ _ (box3 w s t (.slice A l c) (.slice A' l' c')) _
    have h0 := box3_two w s t (.slice A l c) (.slice A' l' c')
    generalize box3 w s t (.slice A l c) (.slice A' l' c') = W0 at *
    refine (short_yes (H.out.1.below h0.below (Nat.le_refl _)) HPQ.out.1).mono ?_
    rintro e W1 ⟨rfl, hb1⟩
    have h1 := h0.next hb1 (Nat.le_refl _)
    have b0 := h1.b0
    have b1 := h1.b1
    clear h0 hb1
    go_wp2_with fail
    refine (short_no (H.out.2.1.below h1.below (Nat.le_refl _)) HPQ.out.2).mono ?_
    rintro e W2 ⟨rfl, hb1⟩
    have hB := h1.next hb1 (Nat.le_refl _)
    clear b0 b1 h1 hb1
  rotate_left
  focus
    have HPQ := Lib.hid h3p
    clear h3p
    go_enter Tryz.func102, Tryz.ntmps102
    go_wp2_with fail
    change Calls _ _ _ (box3 w s t (.slice A l c) (.slice A' l' c')) _
    have h0 := box3_two w s t (.slice A l c) (.slice A' l' c')
    generalize box3 w s t (.slice A l c) (.slice A' l' c') = W0 at *
    refine (short_no (H.out.1.below h0.below (Nat.le_refl _)) HPQ.out).mono ?_
    rintro e W2 ⟨rfl, hb1⟩
    have hB := h0.next hb1 (Nat.le_refl _)
    clear h0 hb1
  all_goals
    have a0 := hB.a0
    have a1 := hB.a1
    have b0 := hB.b0
    have b1 := hB.b1
    go_wp2_with fail
    have hD := hB.drew
    go_region_held3 (fun w' => w'.cell? ⟨w.heap.size, 0, none⟩ = some (.int .i64 s) ∧ w'.cell? ⟨w.heap.size, 1, none⟩ = some (.slice A l c) ∧ w'.cell? ⟨w.heap.size + 1, 0, none⟩ = some (.int .i64 t) ∧ w'.cell? ⟨w.heap.size + 1, 1, none⟩ = some (.slice A' l' c') ∧ Two w w' s t (.slice A l c) (.slice A' l' c'))
      (first | exact ⟨q7.a0, q7.a1, q7.b0, q7.b1, q7⟩ | exact ⟨q6.a0, q6.a1, q6.b0, q6.b1, q6⟩ | exact ⟨q5.a0, q5.a1, q5.b0, q5.b1, q5⟩ | exact ⟨q4.a0, q4.a1, q4.b0, q4.b1, q4⟩ | exact ⟨q3.a0, q3.a1, q3.b0, q3.b1, q3⟩ | exact ⟨hD.a0, hD.a1, hD.b0, hD.b1, hD⟩)
      (first
        | (go_at_call 137; go_split_ands; ((with_reducible refine (limbs_any (H.out.1.below hD.below (Nat.le_refl _))).mono ?_); rintro e w3 ⟨x, rfl, hx, hb3⟩; obtain ⟨X, lx, cx, rfl⟩ := hx.shape; have q3 : Two w w3 s t (.slice A l c) (.slice A' l' c') := Two.next hD hb3 (Nat.le_refl _)))
        | (go_at_call 137; go_split_ands; ((with_reducible refine (limbs_any (H.out.2.1.below q3.below (Nat.le_refl _))).mono ?_); rintro e w4 ⟨y, rfl, hy, hb4⟩; obtain ⟨Y, ly, cy, rfl⟩ := hy.shape; have HX := Lib.hid (And.intro (hx.below hb4 (Nat.le_refl _)) hy); clear hx hy; have q4 : Two w w4 s t (.slice A l c) (.slice A' l' c') := Two.next q3 hb4 (Nat.le_refl _)))
        | (go_at_call 161; go_split_ands; ((with_reducible refine (gcd_nat (k := k) HX.out.1 HX.out.2 hp hq hk1 (by omega)).mono ?_); rintro e w5 ⟨u, rfl, hu, hb5⟩; rw [← HGG.out.1] at hu; have HU := Lib.hid hu; clear hu; have q5 : Two w w5 s t (.slice A l c) (.slice A' l' c') := Two.next q4 hb5 (Nat.le_refl _)))
        | (go_at_call 138; go_split_ands; ((with_reducible refine (signed_any (k := k) false HU.out HGG.out.2 (by omega)).mono ?_); rintro e w6 ⟨v, rfl, hv, hb6⟩; have q6 : Two w w6 s t (.slice A l c) (.slice A' l' c') := Two.next q5 hb6 (Nat.le_refl _); obtain ⟨X6, l6, c6, rfl, hv6⟩ := hv.shape_s HRR.out; have HV := Lib.hid hv6; clear hv hv6; obtain ⟨v0, c0⟩ := q6.r.c0; obtain ⟨v1, c1⟩ := q6.r.c1; have f0 := q6.r.f0; have f1 := q6.r.f1; have q7 := q6.put r X6 l6 c6)))
    go_wp2
    have HF := Lib.hid (And.intro (q6.r.put0 r X6 l6 c6) (And.intro (q6.r.put1 r X6 l6 c6) (And.intro (q6.r.size HV.out r X6 l6 c6) q7.below)))
    rw [show (w6.setCell ⟨w.heap.size + 1 + 1, 0, none⟩ (.int .i64 r)).setCell ⟨w.heap.size + 1 + 1, 1, none⟩ (.slice X6 l6 c6) = setInt w6 (w.heap.size + 1 + 1) r X6 l6 c6 from rfl]
    clear q7
    obtain ⟨z0, z1, z2, z3⟩ := HF.out
    generalize setInt w6 (w.heap.size + 1 + 1) r X6 l6 c6 = W3 at *
    exact bodyPost_ret (v := .agg #[.int .i64 r, .slice X6 l6 c6]) (by simp [results, Tryz.results102, go_sem, z0, z1]) rfl ⟨_, rfl, ⟨X6, l6, c6, by rw [HRR.out], z2⟩, z3⟩

theorem gcd_int {w : World} {a b : Value} {p q : Int} {k : Nat} (ha : IsInt w a p) (hb : IsInt w b q) (hp : p.natAbs < M.B ^ k) (hq : q.natAbs < M.B ^ k) (hk1 : 1 ≤ k) (hk : k ≤ 29000) :
    Calls Tryz.prog 102 #[a, b] w fun e w' => ∃ v, e = .returned v ∧ IsInt w' v ((Nat.gcd p.natAbs q.natAbs : Nat) : Int) ∧ Below w.heap.size w w' := by
  by_cases h : p.natAbs ≤ 4611686018427387903 ∧ q.natAbs ≤ 4611686018427387903
  · exact gcd_int_short ha hb h.1 h.2
  · exact gcd_int_long ha hb hp hq hk1 hk h
end Go.Proofs.YthnbocojjllfaaaGreatDoor
namespace Go.Proofs.YthnbocojjllfaaaGreatDoor
open Go Go.RowKit

set_option maxHeartbeats 800000 in
set_option maxRecDepth 100000 in
theorem combine_at {f : Nat} {z p q : Int} (hcf : ∀ (args : Array Value) (w : World), (callFunc f args).run Tryz.prog w = .ok (.enter f args) w) (hop : ∀ (w : World) (a b : Value), IsInt w a p → IsInt w b q → p.natAbs < M.B ^ 42 → q.natAbs < M.B ^ 42 → Calls Tryz.prog f #[a, b] w fun e w' => ∃ v, e = .returned v ∧ IsInt w' v z ∧ Below w.heap.size w w') {w : World} (s t : ByteArray) (hs : s.data.toList = Lib.itoa p) (ht : t.data.toList = Lib.itoa q) (hp : Lib.nDigits p.natAbs ≤ 400) (hq : Lib.nDigits q.natAbs ≤ 400) (hr : z.natAbs < M.B ^ 100) (htab : Tab w) :
    Calls Tryz.prog 77 #[.func (.func f) #[] #[], .string s, .string t] w fun e w' => e = .returned (give z) ∧ Below w.heap.size w w' := by
  have HTB := Lib.hid htab
  clear htab
  have H := Lib.hid (And.intro hs (And.intro ht (And.intro hop (And.intro (lt_ten _ hp) (lt_ten _ hq)))))
  have v1 := vld_itoa hp
  have v2 := vld_itoa hq
  rw [← hs] at v1
  rw [← ht] at v2
  have HV := Lib.hid (And.intro v1 v2)
  clear hop hs ht v1 v2
  go_enter Tryz.func77, Tryz.ntmps77
  go_wp2_with fail
  refine (valid_any s).mono ?_
  rw [HV.out.1]
  rintro e w1 ⟨rfl, rfl⟩
  go_wp2_with fail
  refine (valid_any t).mono ?_
  rw [HV.out.2]
  rintro e w1 ⟨rfl, rfl⟩
  go_wp2_with fail
  refine (read_any s H.out.1 (by omega)).mono ?_
  rintro e w1 ⟨a, rfl, ha, hb1⟩
  have H1 := Lib.hid (And.intro ha hb1)
  clear ha hb1
  go_wp2_with fail
  refine (read_any t H.out.2.1 (by omega)).mono ?_
  rintro e w2 ⟨b, rfl, hb, hb2⟩
  have H2 := Lib.hid (And.intro (H1.out.1.below hb2 (Nat.le_refl _)) (And.intro hb (H1.out.2.trans (hb2.mono H1.out.2.size))))
  clear hb hb2
  go_wp2_with fail
  refine (H.out.2.2.1 _ _ _ H2.out.1 H2.out.2.1 H.out.2.2.2.1 H.out.2.2.2.2).mono ?_
  rintro e w3 ⟨c, rfl, hc, hb3⟩
  have H3 := Lib.hid (And.intro hc (H2.out.2.2.trans (hb3.mono H2.out.2.2.size)))
  clear hc hb3
  go_wp2_with fail
  refine (write_any (HTB.out.below H3.out.2) H3.out.1 hr (by omega)).mono ?_
  rintro e w4 ⟨rfl, hb4⟩
  have H4 := Lib.hid (H3.out.2.trans (hb4.mono H3.out.2.size))
  clear hb4
  unfold give
  by_cases hg : Lib.nDigits z.natAbs ≤ 400
  · rw [if_pos hg]
    have HG := Lib.hid hg
    clear hg
    go_wp2
    go_ret2
    refine ⟨?_, H4.out⟩
    unfold give
    rw [if_pos HG.out]
    rfl
  · rw [if_neg hg]
    have HG := Lib.hid hg
    clear hg
    go_wp2
    go_ret2
    refine ⟨?_, H4.out⟩
    unfold give
    rw [if_neg HG.out]
    rfl


theorem cf_gcd (args : Array Value) (w : World) : (callFunc 102 args).run Tryz.prog w = .ok (.enter 102 args) w := by kernel_rfl
theorem gcd_le_pow {p q : Int} (hp : Lib.nDigits p.natAbs ≤ 400) (hq : Lib.nDigits q.natAbs ≤ 400) : Lib.nDigits (Nat.gcd p.natAbs q.natAbs) ≤ 400 := by
  by_cases h : p.natAbs = 0
  · rw [h, Nat.gcd_zero_left]; exact hq
  · exact Nat.le_trans (nDigits_mono (Nat.gcd_le_left _ (by omega))) hp
set_option maxHeartbeats 400000 in
theorem gcd_ok {w : World} (s t : ByteArray) {p q : Int} (hs : s.data.toList = Lib.itoa p) (ht : t.data.toList = Lib.itoa q) (hp : Lib.nDigits p.natAbs ≤ 400) (hq : Lib.nDigits q.natAbs ≤ 400) (htab : Tab w) :
    Calls Tryz.prog 40 #[.string s, .string t] w fun e w' => e = .returned (.tuple #[.string ⟨(Lib.itoa ((Nat.gcd p.natAbs q.natAbs : Nat) : Int)).toArray⟩, .int .i64 0]) ∧ Below w.heap.size w w' := by
  have hg := gcd_le_pow hp hq
  obtain ⟨G, hGG⟩ : ∃ G, G = Nat.gcd p.natAbs q.natAbs := ⟨_, rfl⟩
  have hb : ((G : Nat) : Int).natAbs < M.B ^ 100 := by
    rw [hGG]
    exact Nat.lt_of_lt_of_le (lt_ten _ (by simpa using hg)) (M.pow_mono (by omega))
  have hc := fun w (ht0 : Tab w) => combine_at (w := w) (z := (G : Int)) cf_gcd (fun w a b ha hb h1 h2 => by rw [hGG]; exact gcd_int ha hb h1 h2 (by omega) (by omega)) s t hs ht hp hq hb ht0
  have hgv : give (G : Int) = .tuple #[.string ⟨(Lib.itoa (G : Int)).toArray⟩, .int .i64 0] := if_pos (by rw [hGG]; simpa using hg)
  rw [← hGG]
  have HC := Lib.hid (And.intro hc (And.intro hgv htab))
  clear hc hgv hs ht hGG hg hb htab
  go_enter Tryz.func40, Tryz.ntmps40
  go_wp2_with fail
  refine (HC.out.1 _ HC.out.2.2).mono ?_
  rw [HC.out.2.1]
  rintro e w' ⟨rfl, hb⟩
  go_wp2
  go_ret2
  exact ⟨rfl, hb⟩
end Go.Proofs.YthnbocojjllfaaaGreatDoor
