/- Plus, Minus, Times of integers. -/
import Derived.Test.YtafknlnlejopeaaGreatDoorIntB
namespace Go.Proofs.YtafknlnlejopeaaGreatDoor
open Go Go.RowKit

theorem natAbs_add_same {p q : Int} (h : decide (p < 0) = decide (q < 0)) : (p + q).natAbs = p.natAbs + q.natAbs := by
  by_cases h1 : p < 0
  · have h2 : q < 0 := by rw [decide_eq_true h1] at h; exact of_decide_eq_true h.symm
    omega
  · have h2 : ¬ q < 0 := by rw [decide_eq_false h1] at h; exact of_decide_eq_false h.symm
    omega
theorem IsInt.shape {w : World} {v : Value} {z : Int} (h : IsInt w v z) : ∃ A l c, v = .agg #[.bool (decide (z < 0)), .slice A l c] ∧ IsNat w (.slice A l c) z.natAbs := by
  obtain ⟨s, rfl, hs⟩ := h
  obtain ⟨A, l, c, rfl⟩ := hs.shape
  exact ⟨A, l, c, rfl, hs⟩
theorem IsInt.shape_b {w : World} {v : Value} {z : Int} {b : Bool} (h : IsInt w v z) (hb : b = decide (z < 0)) : ∃ A l c, v = .agg #[.bool b, .slice A l c] ∧ IsNat w (.slice A l c) z.natAbs := by
  subst hb; exact h.shape
theorem signed_b {w : World} {s : Value} {n : Nat} {b : Bool} (neg : Bool) (hb : b = (neg && decide (0 < n))) (h : IsNat w s n) :
    Calls Tryz.prog 63 #[.bool neg, s] w fun e w' => e = .returned (.agg #[.bool b, s]) ∧ Below w.heap.size w w' := by
  subst hb; exact signed_any neg h
theorem plus_int {w : World} {a b : Value} {p q : Int} {k : Nat} (ha : IsInt w a p) (hb : IsInt w b q) (hp : p.natAbs < M.B ^ k) (hq : q.natAbs < M.B ^ k) (hk : k ≤ 30000) :
    Calls Tryz.prog 36 #[a, b] w fun e w' => ∃ v, e = .returned v ∧ IsInt w' v (p + q) ∧ Below w.heap.size w w' := by
  obtain ⟨s, rfl, hs⟩ := ha
  obtain ⟨s', rfl, hs'⟩ := hb
  by_cases hsame : decide (p < 0) = decide (q < 0)
  · rw [← hsame]
    refine (plus_same _ hs hs' hp hq hk).mono ?_
    rintro e w' ⟨v, rfl, hv, hb⟩
    refine ⟨_, rfl, isInt_of hv (natAbs_add_same hsame) (fun _ => ?_), hb⟩
    by_cases h1 : p < 0
    · have h2 : q < 0 := by rw [decide_eq_true h1] at hsame; exact of_decide_eq_true hsame.symm
      rw [decide_eq_true h1, decide_eq_true (by omega)]
    · have h2 : ¬ q < 0 := by rw [decide_eq_false h1] at hsame; exact of_decide_eq_false hsame.symm
      rw [decide_eq_false h1, decide_eq_false (by omega)]
  · have hneg : decide (q < 0) = !decide (p < 0) := by
      cases h1 : decide (p < 0) <;> cases h2 : decide (q < 0) <;> simp [h1, h2] at hsame ⊢
    rw [hneg]
    by_cases hlt : p.natAbs < q.natAbs
    · refine (plus_lt _ hs hs' hp hq hk hlt).mono ?_
      rintro e w' ⟨v, rfl, hv, hb⟩
      refine ⟨_, rfl, isInt_of hv ?_ (fun _ => ?_), hb⟩
      · by_cases h1 : p < 0
        · have h2 : ¬ q < 0 := by rw [decide_eq_true h1] at hneg; exact of_decide_eq_false hneg
          omega
        · have h2 : q < 0 := by rw [decide_eq_false h1] at hneg; exact of_decide_eq_true hneg
          omega
      · by_cases h1 : p < 0
        · have h2 : ¬ q < 0 := by rw [decide_eq_true h1] at hneg; exact of_decide_eq_false hneg
          rw [decide_eq_true h1, decide_eq_false (by omega)]; rfl
        · have h2 : q < 0 := by rw [decide_eq_false h1] at hneg; exact of_decide_eq_true hneg
          rw [decide_eq_false h1, decide_eq_true (by omega)]; rfl
    · refine (plus_ge _ hs hs' hp hq hk (by omega)).mono ?_
      rintro e w' ⟨v, rfl, hv, hb⟩
      refine ⟨_, rfl, isInt_of hv ?_ (fun _ => ?_), hb⟩
      · by_cases h1 : p < 0
        · have h2 : ¬ q < 0 := by rw [decide_eq_true h1] at hneg; exact of_decide_eq_false hneg
          omega
        · have h2 : q < 0 := by rw [decide_eq_false h1] at hneg; exact of_decide_eq_true hneg
          omega
      · by_cases h1 : p < 0
        · have h2 : ¬ q < 0 := by rw [decide_eq_true h1] at hneg; exact of_decide_eq_false hneg
          rw [decide_eq_true h1, decide_eq_true (by omega)]
        · have h2 : q < 0 := by rw [decide_eq_false h1] at hneg; exact of_decide_eq_true hneg
          rw [decide_eq_false h1, decide_eq_false (by omega)]

/-- The negative of an integer, as signed makes it. -/
theorem neg_int {w : World} {s : Value} {q : Int} (h : IsNat w s q.natAbs) : IsInt w (.agg #[.bool (!decide (q < 0) && decide (0 < q.natAbs)), s]) (-q) :=
  isInt_of h (by omega) (fun h0 => by
    by_cases h1 : q < 0
    · rw [decide_eq_true h1, decide_eq_false (by omega)]; rfl
    · rw [decide_eq_false h1, decide_eq_true (by omega)]; rfl)

set_option maxHeartbeats 1600000 in
set_option maxRecDepth 100000 in
theorem minus_int {w : World} {a b : Value} {p q : Int} {k : Nat} (ha : IsInt w a p) (hb : IsInt w b q) (hp : p.natAbs < M.B ^ k) (hq : q.natAbs < M.B ^ k) (hk : k ≤ 30000) :
    Calls Tryz.prog 37 #[a, b] w fun e w' => ∃ v, e = .returned v ∧ IsInt w' v (p - q) ∧ Below w.heap.size w w' := by
  obtain ⟨n, hn⟩ : ∃ n, n = decide (p < 0) := ⟨_, rfl⟩
  obtain ⟨m, hm⟩ : ∃ m, m = decide (q < 0) := ⟨_, rfl⟩
  obtain ⟨A, l, c, rfl, hs⟩ := ha.shape_b hn
  obtain ⟨A', l', c', rfl, hs'⟩ := hb.shape_b hm
  obtain ⟨z, hz⟩ : ∃ z, z = -q := ⟨_, rfl⟩
  obtain ⟨u, hu⟩ : ∃ u, u = p + z := ⟨_, rfl⟩
  obtain ⟨nb, hnb⟩ : ∃ nb, nb = (!m && decide (0 < q.natAbs)) := ⟨_, rfl⟩
  obtain ⟨rb, hrb⟩ : ∃ rb, rb = decide (u < 0) := ⟨_, rfl⟩
  have hq' : z.natAbs < M.B ^ k := by rw [show z.natAbs = q.natAbs by omega]; exact hq
  have hN : ∀ w', IsNat w' (.slice A' l' c') q.natAbs → IsInt w' (.agg #[.bool nb, .slice A' l' c']) z := by
    intro w' h
    rw [hnb, hm, hz]
    exact neg_int h
  have H := Lib.hid (And.intro ha (And.intro hs' (And.intro hN (And.intro hnb (And.intro hrb (show u = p - q by omega))))))
  have HU := Lib.hid hu
  clear ha hb hs hs' hN hnb hrb hu hz hn hm hq
  go_enter Tryz.func37, Tryz.ntmps37
  go_wp2_with fail
  change Code.wp _ _ _ _ (box3 w n m (.slice A l c) (.slice A' l' c'))
  have hB := box3_boxed w n m (.slice A l c) (.slice A' l' c')
  generalize box3 w n m (.slice A l c) (.slice A' l' c') = W at *
  have hD := hB.drew
  have HX := Lib.hid (And.intro (IsInt.below H.out.1 hD.below (Nat.le_refl _)) (IsNat.below H.out.2.1 hD.below (Nat.le_refl _)))
  go_region_held3 (fun w' => w'.cell? ⟨w.heap.size, 0, none⟩ = some (.bool n) ∧ w'.cell? ⟨w.heap.size, 1, none⟩ = some (.slice A l c) ∧ w'.cell? ⟨w.heap.size + 1, 0, none⟩ = some (.bool m) ∧ w'.cell? ⟨w.heap.size + 1, 1, none⟩ = some (.slice A' l' c') ∧ Boxed w w' n m (.slice A l c) (.slice A' l' c'))
    (first | exact ⟨q1.a0, q1.a1, q1.b0, q1.b1, q1⟩ | exact ⟨q2.a0, q2.a1, q2.b0, q2.b1, q2⟩ | exact ⟨q3.a0, q3.a1, q3.b0, q3.b1, q3⟩ | exact ⟨hB.a0, hB.a1, hB.b0, hB.b1, hD⟩)
    (first
      | (go_at_call 63; go_split_ands; refine (signed_b (!m) H.out.2.2.2.1 HX.out.2).mono ?_; rintro e w1 ⟨rfl, hb1⟩; have q1 : Boxed w w1 n m (.slice A l c) (.slice A' l' c') := Boxed.next hD hb1 (Nat.le_refl _); have HY := Lib.hid (And.intro (HX.out.1.below hb1 (Nat.le_refl _)) (H.out.2.2.1 _ (HX.out.2.below hb1 (Nat.le_refl _)))))
      | (go_at_call 36; go_split_ands; refine (plus_int HY.out.1 HY.out.2 hp hq' hk).mono ?_; rintro e w2 ⟨v, rfl, hv, hb2⟩; obtain ⟨A1, l1, d1, rfl, hv1⟩ := hv.shape_b (b := rb) (by rw [← HU.out]; exact H.out.2.2.2.2.1); have q2 : Boxed w w2 n m (.slice A l c) (.slice A' l' c') := Boxed.next q1 hb2 (Nat.le_refl _); obtain ⟨v0, c0⟩ := q2.r0; obtain ⟨v1, c1⟩ := q2.r1; have f0 := q2.f0; have f1 := q2.f1; have q3 := q2.put rb A1 l1 d1; have hv3 := q2.nat hv1 rb A1 l1 d1))
  go_wp2
  have z0 := q2.put0 rb A1 l1 d1
  have z1 := q2.put1 rb A1 l1 d1
  generalize ((w2.setCell ⟨w.heap.size + 1 + 1, 0, none⟩ (.bool rb)).setCell ⟨w.heap.size + 1 + 1, 1, none⟩ (.slice A1 l1 d1)) = W3 at *
  exact bodyPost_ret (v := .agg #[.bool rb, .slice A1 l1 d1]) (by simp [results, Tryz.results37, go_sem, z0, z1]) rfl ⟨_, rfl, by rw [← H.out.2.2.2.2.2, H.out.2.2.2.2.1]; rw [← HU.out] at hv3; exact ⟨_, rfl, hv3⟩, q3.below⟩
end Go.Proofs.YtafknlnlejopeaaGreatDoor
