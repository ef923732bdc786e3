/- Times of integers. -/
import Derived.Test.YtafknlnlejopeaaGreatDoorIntC
namespace Go.Proofs.YtafknlnlejopeaaGreatDoor
open Go Go.RowKit

theorem times_sign {p q : Int} {n m b : Bool} (hn : n = decide (p < 0)) (hm : m = decide (q < 0)) (hb : b = ((n != m) && decide (0 < p.natAbs * q.natAbs))) : b = decide (p * q < 0) := by
  subst hn hm hb
  by_cases h0 : p.natAbs * q.natAbs = 0
  · have : p * q = 0 := by rw [← Int.natAbs_eq_zero, Int.natAbs_mul]; exact h0
    rw [this, h0]; simp
  · have h3 : p ≠ 0 := fun e => h0 (by rw [e]; simp)
    have h4 : q ≠ 0 := fun e => h0 (by rw [e]; simp)
    rw [decide_eq_true (show 0 < p.natAbs * q.natAbs by omega), Bool.and_true]
    by_cases h1 : p < 0 <;> by_cases h2 : q < 0
    · have := Int.mul_pos_of_neg_of_neg h1 h2
      rw [decide_eq_true h1, decide_eq_true h2, decide_eq_false (by omega)]; rfl
    · have := Int.mul_neg_of_neg_of_pos h1 (show 0 < q by omega)
      rw [decide_eq_true h1, decide_eq_false h2, decide_eq_true this]; rfl
    · have := Int.mul_neg_of_pos_of_neg (show 0 < p by omega) h2
      rw [decide_eq_false h1, decide_eq_true h2, decide_eq_true this]; rfl
    · have := Int.mul_pos (show 0 < p by omega) (show 0 < q by omega)
      rw [decide_eq_false h1, decide_eq_false h2, decide_eq_false (by omega)]; rfl

set_option maxHeartbeats 1600000 in
set_option maxRecDepth 100000 in
theorem times_int {w : World} {a b : Value} {p q : Int} {k : Nat} (ha : IsInt w a p) (hb : IsInt w b q) (hp : p.natAbs < M.B ^ k) (hq : q.natAbs < M.B ^ k) (hk : k ≤ 30000) :
    Calls Tryz.prog 38 #[a, b] w fun e w' => ∃ v, e = .returned v ∧ IsInt w' v (p * q) ∧ Below w.heap.size w w' := by
  obtain ⟨n, hn⟩ : ∃ n, n = decide (p < 0) := ⟨_, rfl⟩
  obtain ⟨m, hm⟩ : ∃ m, m = decide (q < 0) := ⟨_, rfl⟩
  obtain ⟨A, l, c, rfl, hs⟩ := ha.shape_b hn
  obtain ⟨A', l', c', rfl, hs'⟩ := hb.shape_b hm
  obtain ⟨rb, hrb⟩ : ∃ rb, rb = ((!(n == m)) && decide (0 < p.natAbs * q.natAbs)) := ⟨_, rfl⟩
  have hR : ∀ w' s, IsNat w' s (p.natAbs * q.natAbs) → IsInt w' (.agg #[.bool rb, s]) (p * q) := by
    intro w' s h
    refine ⟨s, ?_, by rw [Int.natAbs_mul]; exact h⟩
    rw [times_sign (b := rb) hn hm hrb]
  have H := Lib.hid (And.intro hs (And.intro hs' (And.intro hrb hR)))
  clear ha hb hs hs' hR hrb hn hm
  go_enter Tryz.func38, Tryz.ntmps38
  go_wp2_with fail
  change Code.wp _ _ _ _ (box3 w n m (.slice A l c) (.slice A' l' c'))
  have hB := box3_boxed w n m (.slice A l c) (.slice A' l' c')
  generalize box3 w n m (.slice A l c) (.slice A' l' c') = W at *
  have hD := hB.drew
  have HX := Lib.hid (And.intro (IsNat.below H.out.1 hD.below (Nat.le_refl _)) (IsNat.below H.out.2.1 hD.below (Nat.le_refl _)))
  go_region_held3 (fun w' => w'.cell? ⟨w.heap.size, 0, none⟩ = some (.bool n) ∧ w'.cell? ⟨w.heap.size, 1, none⟩ = some (.slice A l c) ∧ w'.cell? ⟨w.heap.size + 1, 0, none⟩ = some (.bool m) ∧ w'.cell? ⟨w.heap.size + 1, 1, none⟩ = some (.slice A' l' c') ∧ Boxed w w' n m (.slice A l c) (.slice A' l' c'))
    (first | exact ⟨q1.a0, q1.a1, q1.b0, q1.b1, q1⟩ | exact ⟨q2.a0, q2.a1, q2.b0, q2.b1, q2⟩ | exact ⟨q3.a0, q3.a1, q3.b0, q3.b1, q3⟩ | exact ⟨hB.a0, hB.a1, hB.b0, hB.b1, hD⟩)
    (first
      | (go_at_call 67; go_split_ands; refine (times_nat (k := k) HX.out.1 HX.out.2 hp hq hk).mono ?_; rintro e w1 ⟨v, rfl, hv, hb1⟩; obtain ⟨A1, l1, d1, rfl⟩ := hv.shape; have q1 : Boxed w w1 n m (.slice A l c) (.slice A' l' c') := Boxed.next hD hb1 (Nat.le_refl _))
      | (go_at_call 63; go_split_ands; refine (signed_b (!(n == m)) H.out.2.2.1 hv).mono ?_; rintro e w2 ⟨rfl, hb2⟩; have q2 : Boxed w w2 n m (.slice A l c) (.slice A' l' c') := Boxed.next q1 hb2 (Nat.le_refl _); obtain ⟨v0, c0⟩ := q2.r0; obtain ⟨v1, c1⟩ := q2.r1; have f0 := q2.f0; have f1 := q2.f1; have q3 := q2.put rb A1 l1 d1; have hv3 := q2.nat (hv.below hb2 (Nat.le_refl _)) rb A1 l1 d1))
  go_wp2
  have z0 := q2.put0 rb A1 l1 d1
  have z1 := q2.put1 rb A1 l1 d1
  generalize ((w2.setCell ⟨w.heap.size + 1 + 1, 0, none⟩ (.bool rb)).setCell ⟨w.heap.size + 1 + 1, 1, none⟩ (.slice A1 l1 d1)) = W3 at *
  exact bodyPost_ret (v := .agg #[.bool rb, .slice A1 l1 d1]) (by simp [results, Tryz.results38, go_sem, z0, z1]) rfl ⟨_, rfl, H.out.2.2.2 _ _ hv3, q3.below⟩
end Go.Proofs.YtafknlnlejopeaaGreatDoor
