/- Minus, Times of integers. -/
import Derived.Test.YthnbocojjllfaaaGreatDoorIntC
namespace Go.Proofs.YthnbocojjllfaaaGreatDoor
open Go Go.RowKit

set_option maxHeartbeats 1600000 in
set_option maxRecDepth 100000 in
theorem minus_int {w : World} {a b : Value} {p q : Int} {k : Nat} (ha : IsInt w a p) (hb : IsInt w b q) (hp : p.natAbs < M.B ^ k) (hq : q.natAbs < M.B ^ k) (hk : k ≤ 29000) :
    Calls Tryz.prog 79 #[a, b] w fun e w' => ∃ v, e = .returned v ∧ IsInt w' v (p - q) ∧ Below w.heap.size w w' := by
  have hq' : (-q).natAbs < M.B ^ k := by rw [show (-q).natAbs = q.natAbs by omega]; exact hq
  obtain ⟨z, hz⟩ : ∃ z, z = -q := ⟨_, rfl⟩
  rw [← hz] at hq'
  have hpq : p - q = p + z := by omega
  rw [hpq]
  have HZ := Lib.hid hz
  clear hz hpq hq
  have H := Lib.hid (And.intro ha hb)
  obtain ⟨s, hs⟩ : ∃ s, s = wrd p := ⟨_, rfl⟩
  obtain ⟨t, ht⟩ : ∃ t, t = wrd q := ⟨_, rfl⟩
  obtain ⟨A, l, c, rfl, ha1⟩ := ha.shape_s hs
  obtain ⟨A', l', c', rfl, hb1⟩ := hb.shape_s ht
  obtain ⟨r, hr⟩ : ∃ r, r = wrd (p + z) := ⟨_, rfl⟩
  have HRR := Lib.hid hr
  have HS := Lib.hid (And.intro hs ht)
  clear ha hb ha1 hb1 hs ht hr
  go_enter Tryz.func79, Tryz.ntmps79
  go_wp2_with fail
  change Code.wp _ _ _ _ (box3 w s t (.slice A l c) (.slice A' l' c'))
  have hB := box3_two w s t (.slice A l c) (.slice A' l' c')
  generalize box3 w s t (.slice A l c) (.slice A' l' c') = W0 at *
  have hD := hB.drew
  go_region_held3 (fun w' => w'.cell? ⟨w.heap.size, 0, none⟩ = some (.int .i64 s) ∧ w'.cell? ⟨w.heap.size, 1, none⟩ = some (.slice A l c) ∧ w'.cell? ⟨w.heap.size + 1, 0, none⟩ = some (.int .i64 t) ∧ w'.cell? ⟨w.heap.size + 1, 1, none⟩ = some (.slice A' l' c') ∧ Two w w' s t (.slice A l c) (.slice A' l' c'))
    (first | exact ⟨q7.a0, q7.a1, q7.b0, q7.b1, q7⟩ | exact ⟨q2.a0, q2.a1, q2.b0, q2.b1, q2⟩ | exact ⟨q1.a0, q1.a1, q1.b0, q1.b1, q1⟩ | exact ⟨hD.a0, hD.a1, hD.b0, hD.b1, hD⟩)
    (first
      | (go_at_call 142; go_split_ands; ((with_reducible refine (negated_any (H.out.2.below hD.below (Nat.le_refl _))).mono ?_); rintro e w1 ⟨x, rfl, hx, hb1⟩; rw [← HZ.out] at hx; have HX := Lib.hid hx; obtain ⟨X, lx, cx, rfl, hx1⟩ := hx; clear hx1; have q1 : Two w w1 s t (.slice A l c) (.slice A' l' c') := Two.next hD hb1 (Nat.le_refl _)))
      | (go_at_call 78; go_split_ands; ((with_reducible refine (plus_int (H.out.1.below q1.below (Nat.le_refl _)) HX.out hp hq' hk).mono ?_); rintro e w2 ⟨v, rfl, hv, hb2⟩; have q2 : Two w w2 s t (.slice A l c) (.slice A' l' c') := Two.next q1 hb2 (Nat.le_refl _); obtain ⟨X6, l6, c6, rfl, hv6⟩ := hv.shape_s HRR.out; have HV := Lib.hid hv6; clear hv hv6; obtain ⟨v0, c0⟩ := q2.r.c0; obtain ⟨v1, c1⟩ := q2.r.c1; have f0 := q2.r.f0; have f1 := q2.r.f1; have q7 := q2.put r X6 l6 c6)))
  go_wp2
  have HF := Lib.hid (And.intro (q2.r.put0 r X6 l6 c6) (And.intro (q2.r.put1 r X6 l6 c6) (And.intro (q2.r.size HV.out r X6 l6 c6) q7.below)))
  rw [show (w2.setCell ⟨w.heap.size + 1 + 1, 0, none⟩ (.int .i64 r)).setCell ⟨w.heap.size + 1 + 1, 1, none⟩ (.slice X6 l6 c6) = setInt w2 (w.heap.size + 1 + 1) r X6 l6 c6 from rfl]
  clear q7
  obtain ⟨z0, z1, z2, z3⟩ := HF.out
  generalize setInt w2 (w.heap.size + 1 + 1) r X6 l6 c6 = W3 at *
  exact bodyPost_ret (v := .agg #[.int .i64 r, .slice X6 l6 c6]) (by simp [results, Tryz.results79, go_sem, z0, z1]) rfl ⟨_, rfl, ⟨X6, l6, c6, by rw [HRR.out], z2⟩, z3⟩

theorem sgn_ne {p q : Int} : withSign (sgn p != sgn q) (p.natAbs * q.natAbs) = p * q := by
  by_cases h0 : p = 0 ∨ q = 0
  · have h1 : p.natAbs * q.natAbs = 0 := by rcases h0 with rfl | rfl <;> simp
    have h2 : p * q = 0 := by rcases h0 with rfl | rfl <;> simp
    rw [h1, h2]; unfold withSign; split <;> rfl
  · have hp0 : p ≠ 0 := fun e => h0 (.inl e)
    have hq0 : q ≠ 0 := fun e => h0 (.inr e)
    rw [← Int.natAbs_mul]
    unfold withSign sgn
    by_cases h1 : p < 0 <;> by_cases h2 : q < 0
    · have := Int.mul_pos_of_neg_of_neg h1 h2
      simp [h1, h2]; omega
    · have := Int.mul_neg_of_neg_of_pos h1 (show 0 < q by omega)
      simp [h1, h2, show 0 < q by omega]; omega
    · have := Int.mul_neg_of_pos_of_neg (show 0 < p by omega) h2
      simp [h1, h2, show 0 < p by omega]; omega
    · have := Int.mul_pos (show 0 < p by omega) (show 0 < q by omega)
      simp [h1, h2, show 0 < p by omega, show 0 < q by omega]; omega
theorem prod_lt {x y k : Nat} (hx : x < M.B ^ k) (hy : y < M.B ^ k) : x * y < M.B ^ (k + k) := by
  rw [Nat.pow_add]
  exact Nat.mul_lt_mul'' hx hy
end Go.Proofs.YthnbocojjllfaaaGreatDoor
