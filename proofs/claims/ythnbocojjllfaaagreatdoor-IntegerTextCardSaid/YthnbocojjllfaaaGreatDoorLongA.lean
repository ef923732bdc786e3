/- Long division: the arithmetic of a round; the shift that makes the divisor's highest bit 1. -/
import Derived.Test.YthnbocojjllfaaaGreatDoorShift
import Derived.Test.YthnbocojjllfaaaGreatDoorShelf
namespace Go.Proofs.YthnbocojjllfaaaGreatDoor
open Go Go.RowKit

namespace M
/-- The highest limb of a number with n + 1 limbs. -/
theorem top_eq {y n : Nat} (hy : y < B ^ (n + 1)) : dg y n = y / B ^ n := by
  unfold dg
  refine Nat.mod_eq_of_lt ((Nat.div_lt_iff_lt_mul (pow_pos n)).2 ?_)
  rw [Nat.mul_comm, ← pow_succ']; exact hy
theorem scale_norm {y n f s : Nat} (hf : f = y / B ^ n) (h1 : 2147483648 ≤ f * 2 ^ s) (h2 : (f + 1) * 2 ^ s ≤ B) : y * 2 ^ s < B ^ (n + 1) ∧ 2147483648 * B ^ n ≤ y * 2 ^ s := by
  have h3 : f * B ^ n ≤ y := by rw [hf]; exact Nat.div_mul_le_self _ _
  have h4 : y < (f + 1) * B ^ n := by
    rw [hf, Nat.mul_comm]; exact Nat.lt_mul_div_succ y (pow_pos n)
  have hp : 0 < 2 ^ s := Nat.pow_pos (by decide)
  constructor
  · have h5 : y * 2 ^ s < (f + 1) * B ^ n * 2 ^ s := Nat.mul_lt_mul_of_pos_right h4 hp
    have h6 : (f + 1) * B ^ n * 2 ^ s ≤ B * B ^ n := by
      rw [Nat.mul_assoc, Nat.mul_comm (B ^ n), ← Nat.mul_assoc]; exact Nat.mul_le_mul_right _ h2
    rw [pow_succ', Nat.mul_comm (B ^ n)]
    omega
  · have h5 : f * B ^ n * 2 ^ s ≤ y * 2 ^ s := Nat.mul_le_mul_right _ h3
    have h6 : 2147483648 * B ^ n ≤ f * 2 ^ s * B ^ n := Nat.mul_le_mul_right _ h1
    have h7 : f * B ^ n * 2 ^ s = f * 2 ^ s * B ^ n := by rw [Nat.mul_assoc, Nat.mul_comm (B ^ n), ← Nat.mul_assoc]
    omega
/-- The window of a round, and what the estimate needs of it. -/
theorem window_facts {W D m f s h1 h0 x2 : Nat} (hD : D < B ^ (m + 2)) (hW : W < D * B) (hf : f = dg D (m + 1)) (hs : s = dg D m) (e1 : h1 = dg W (m + 2)) (e0 : h0 = dg W (m + 1)) (e2 : x2 = dg W m) :
    D / B ^ m = f * B + s ∧ W / B ^ m = (h1 * B + h0) * B + x2 ∧ h1 * B + h0 ≤ f * B + s := by
  have hWB : W < B ^ (m + 3) := by
    have : D * B < B ^ (m + 2) * B := Nat.mul_lt_mul_of_pos_right hD B_pos
    rw [← pow_succ'] at this
    exact Nat.lt_trans hW this
  have a1 : D / B ^ m = f * B + s := by
    rw [div_succ D m, ← hs, show m + 1 = m + 1 from rfl, ← top_eq (n := m + 1) hD, ← hf, Nat.mul_comm, Nat.add_comm]
  have a2 : W / B ^ (m + 1) = h1 * B + h0 := by
    rw [div_succ W (m + 1), ← e0, ← top_eq (n := m + 1 + 1) hWB, show m + 1 + 1 = m + 2 from rfl, ← e1, Nat.mul_comm, Nat.add_comm]
  have a3 : W / B ^ m = (h1 * B + h0) * B + x2 := by
    rw [div_succ W m, ← e2, a2, Nat.mul_comm, Nat.add_comm]
  refine ⟨a1, a3, ?_⟩
  rw [← a1, ← a2]
  rw [pow_succ', ← Nat.div_div_eq_div_mul]
  have h5 : W / B ^ m ≤ D * B / B ^ m := Nat.div_le_div_right (Nat.le_of_lt hW)
  have h6 : W < D * B := hW
  have h7 : W / B ^ m / B = W / B / B ^ m := by rw [Nat.div_div_eq_div_mul, Nat.mul_comm, ← Nat.div_div_eq_div_mul]
  rw [h7]
  refine Nat.div_le_div_right ?_
  have : W / B < D := (Nat.div_lt_iff_lt_mul B_pos).2 hW
  omega
/-- The estimate of a round is the digit, or one more. -/
theorem round_est {W D m E T q : Nat} (hE : E = D / B ^ m) (hT : T = W / B ^ m) (hq : q < B) (hqT : q * E ≤ T) (hmax : ∀ Q, Q < B → Q * E ≤ T → Q ≤ q) (hEB : B ≤ E) (h0 : 0 < D) (hW : W < D * B) : W / D ≤ q ∧ q ≤ W / D + 1 := by
  have hp := pow_pos m
  constructor
  · refine hmax _ ?_ ?_
    · rw [Nat.div_lt_iff_lt_mul h0, Nat.mul_comm]; exact hW
    · refine est_low (W := W) (D := D) (p := B ^ m) ?_ ?_ (Nat.div_mul_le_self _ _)
      · rw [hE]; exact Nat.div_mul_le_self _ _
      · rw [hT, Nat.mul_comm]; exact Nat.lt_mul_div_succ W hp
  · refine est_high (p := B ^ m) (E := E) (T := T) ?_ ?_ hqT (by omega) h0
    · rw [hE, Nat.mul_comm]; exact Nat.lt_mul_div_succ D hp
    · rw [hT]; exact Nat.div_mul_le_self _ _
/-- What is left of a round whose estimate is the digit. -/
theorem round_hit {R N N' Q d b c BL : Nat} (hN : N = R + Q * d) (h : N' + Q * d = N + (b + c) * BL) (hN' : N' < BL) : b = 0 ∧ c = 0 ∧ N' = R := by
  have h1 : (b + c) * BL < BL := by omega
  have h2 : b + c = 0 := by
    rcases Nat.eq_zero_or_pos (b + c) with h3 | h3
    · exact h3
    · have := Nat.le_mul_of_pos_left BL h3; omega
  rw [h2, Nat.zero_mul] at h
  omega
/-- What is left of a round whose estimate is one more than the digit. -/
theorem round_miss {R N N' N2 Q d b c c2 BL : Nat} (hN : N = R + Q * d) (hR : R < d) (h : N' + (Q + 1) * d = N + (b + c) * BL) (hc : c = 0) (hb : b ≤ 1) (h2 : N2 + c2 * BL = N' + d) (hN2 : N2 < BL) (hRB : R < BL) : b = 1 ∧ N2 = R := by
  rw [Nat.add_mul] at h
  subst hc
  rcases Nat.eq_zero_or_pos b with h3 | h3
  · subst h3; exfalso; omega
  · have hb1 : b = 1 := by omega
    subst hb1
    refine ⟨rfl, ?_⟩
    rcases Nat.lt_trichotomy c2 1 with h4 | h4 | h4
    · have : c2 = 0 := by omega
      subst this; omega
    · subst h4; omega
    · have := Nat.mul_le_mul_right BL (show 2 ≤ c2 by omega)
      omega
end M

theorem lead_norm {f : Nat} (h0 : 0 < f) (h : f ≤ 4294967295) : ∃ s : Nat, s < 32 ∧ (32 - (Lib.bitLen f : Int)) = (s : Int) ∧ 2147483648 ≤ f * 2 ^ s ∧ (f + 1) * 2 ^ s ≤ M.B := by
  obtain ⟨h1, h2, h3⟩ : 1 ≤ Lib.bitLen f ∧ 2 ^ (Lib.bitLen f - 1) ≤ f ∧ f < 2 ^ Lib.bitLen f := Lib.bitLenAux_bounds 64 f (by omega) (by omega)
  have h4 : Lib.bitLen f ≤ 32 := Lib.bitLen_le f 32 (by omega) (by omega)
  generalize Lib.bitLen f = b at *
  refine ⟨32 - b, by omega, by omega, ?_, ?_⟩
  · have := Nat.mul_le_mul_right (2 ^ (32 - b)) h2
    rw [← Nat.pow_add, show b - 1 + (32 - b) = 31 by omega] at this
    exact this
  · have := Nat.mul_le_mul_right (2 ^ (32 - b)) (show f + 1 ≤ 2 ^ b by omega)
    rw [← Nat.pow_add, show b + (32 - b) = 32 by omega] at this
    rw [M.B_eq]; exact this
end Go.Proofs.YthnbocojjllfaaaGreatDoor
