/- Long division, plain arithmetic: the estimate of a quotient digit; one round; product subtracted and divisor added back. No program stands here. -/
import Derived.Test.YthnbocojjllfaaaGreatDoorMath
namespace Go.Proofs.YthnbocojjllfaaaGreatDoor
namespace M

theorem est_low {W D p E T Q : Nat} (hE : E * p ≤ D) (hT : W < (T + 1) * p) (hQ : Q * D ≤ W) : Q * E ≤ T := by
  have h1 : Q * E * p ≤ Q * D := by rw [Nat.mul_assoc]; exact Nat.mul_le_mul_left _ hE
  have h2 : Q * E * p < (T + 1) * p := by omega
  have := Nat.lt_of_mul_lt_mul_right h2
  omega
theorem est_step {q f s r x high Q E T : Nat} (hE : E = f * B + s) (hT : T = high * B + x) (hinv : q * f + r = high) (hlow : Q * E ≤ T) (hgt : r * B + x < q * s) : Q < q := by
  have h1 : q * E = q * f * B + q * s := by rw [hE, Nat.mul_add, Nat.mul_assoc]
  have h2 : T = q * f * B + r * B + x := by rw [hT, ← hinv, Nat.add_mul]
  have h3 : Q * E < q * E := by omega
  exact Nat.lt_of_mul_lt_mul_right h3
theorem est_high {W D p E T q : Nat} (hD : D < (E + 1) * p) (hW : T * p ≤ W) (hq : q * E ≤ T) (hqE : q ≤ E) (h0 : 0 < D) : q ≤ W / D + 1 := by
  have h1 : W < (W / D + 1) * D := by
    have := Nat.lt_mul_div_succ W h0
    rw [Nat.mul_comm]; exact this
  generalize W / D = Q at *
  rcases Nat.lt_or_ge (Q + 1) q with h | h
  · exfalso
    obtain ⟨m, rfl⟩ : ∃ m, q = m + 1 := ⟨q - 1, by omega⟩
    have h2 : (Q + 1) * D ≤ m * D := Nat.mul_le_mul_right _ (by omega)
    have h3 : m * D ≤ m * (E + 1) * p := by rw [Nat.mul_assoc]; exact Nat.mul_le_mul_left _ (by omega)
    have h4 : (m + 1) * E * p ≤ T * p := Nat.mul_le_mul_right _ hq
    have h5 : (m + 1) * E * p < m * (E + 1) * p := by omega
    have h6 := Nat.lt_of_mul_lt_mul_right h5
    rw [Nat.add_mul, Nat.mul_add] at h6
    omega
  · exact h
/-- The first estimate is not too small. -/
theorem est_start {W D p f high Q : Nat} (hf : f * p ≤ D) (hW : W < (high + 1) * p) (hQ : Q * D ≤ W) (h0 : 0 < f) : Q ≤ high / f :=
  (Nat.le_div_iff_mul_le h0).2 (est_low hf hW hQ)
/-- Where the rest of the estimate has outgrown a limb, the estimate needs no further test. -/
theorem est_rest {q f s r high x : Nat} (hinv : q * f + r = high) (hh : high ≤ f * B + s) (hs : s < B) (hr : B ≤ r) : q < B ∧ q * s ≤ r * B + x := by
  have hq : q < B := by
    rcases Nat.lt_or_ge q B with h | h
    · exact h
    · have : B * f ≤ q * f := Nat.mul_le_mul_right _ h
      rw [Nat.mul_comm B f] at this
      omega
  refine ⟨hq, ?_⟩
  have h1 : q * s ≤ B * B := Nat.mul_le_mul (Nat.le_of_lt hq) (Nat.le_of_lt hs)
  have h2 : B * B ≤ r * B := Nat.mul_le_mul_right _ hr
  omega

/-- One round: the window's quotient is the digit of the whole quotient. -/
theorem long_digit (Z D i : Nat) : Z % (D * B ^ (i + 1)) / B ^ i / D = dg (Z / D) i := by
  unfold dg
  rw [pow_succ', ← Nat.mul_assoc, Nat.div_div_eq_div_mul, Nat.mul_comm (B ^ i) D, Nat.mod_mul_right_div_self, Nat.div_div_eq_div_mul]
theorem long_rest (Z D i : Nat) : Z % (D * B ^ (i + 1)) = Z % (D * B ^ i) + dg (Z / D) i * (D * B ^ i) := by
  unfold dg
  rw [pow_succ', ← Nat.mul_assoc, Nat.mod_mul, Nat.div_div_eq_div_mul, Nat.mul_comm (D * B ^ i) (_ % B)]
theorem long_window {Z D i : Nat} (h0 : 0 < D) : Z % (D * B ^ (i + 1)) / B ^ i < D * B := by
  have h := Nat.mod_lt Z (Nat.mul_pos h0 (pow_pos (i + 1)))
  rw [Nat.div_lt_iff_lt_mul (pow_pos i), Nat.mul_assoc, Nat.mul_comm B, ← pow_succ']
  exact h

/-- A product is subtracted, limb by limb: what holds behind j limbs holds behind j + 1. The number is N, its digits from o on are changed; u: what the number was. -/
theorem sub_step {N u D q b c o j d low c' b' : Nat} (h : N % B ^ (o + j) + D % B ^ j * q * B ^ o = u % B ^ (o + j) + (b + c) * B ^ (o + j)) (hd : d < B)
    (hc : c + dg D j * q = low + c' * B) (hb : dg u (o + j) + b' * B = d + low + b) :
    put N (o + j) d % B ^ (o + (j + 1)) + D % B ^ (j + 1) * q * B ^ o = u % B ^ (o + (j + 1)) + (b' + c') * B ^ (o + (j + 1)) := by
  rw [show o + (j + 1) = o + j + 1 by omega, mod_succ, put_mod, dg_put_same _ _ hd, mod_succ D, mod_succ u, pow_succ']
  have e1 : (D % B ^ j + B ^ j * dg D j) * q * B ^ o = D % B ^ j * q * B ^ o + dg D j * q * B ^ (o + j) := by
    rw [Nat.add_mul, Nat.add_mul, Nat.pow_add, Nat.mul_comm (B ^ j) (dg D j), Nat.mul_comm (B ^ o) (B ^ j)]
    congr 1
    rw [Nat.mul_assoc (dg D j), Nat.mul_comm (B ^ j) q, ← Nat.mul_assoc, Nat.mul_assoc]
  rw [e1]
  generalize B ^ (o + j) = p at *
  generalize D % B ^ j * q * B ^ o = P at *
  generalize dg D j * q = e at *
  have h2 : (c + e) * p = (low + c' * B) * p := by rw [hc]
  have h3 : (dg u (o + j) + b' * B) * p = (d + low + b) * p := by rw [hb]
  rw [Nat.add_mul, Nat.add_mul] at h2
  rw [Nat.add_mul, Nat.add_mul, Nat.add_mul] at h3
  rw [Nat.add_mul] at h ⊢
  have e2 : b' * B * p = b' * (p * B) := by rw [Nat.mul_assoc, Nat.mul_comm B p]
  have e3 : c' * B * p = c' * (p * B) := by rw [Nat.mul_assoc, Nat.mul_comm B p]
  rw [Nat.mul_comm p d, Nat.mul_comm p (dg u (o + j))]
  omega
/-- The carry of a product of a number and a factor stays within the factor. -/
theorem sub_carry {D q c j low c' : Nat} (h : c * B ^ j ≤ D % B ^ j * q) (hc : c + dg D j * q = low + c' * B) : c' * B ^ (j + 1) ≤ D % B ^ (j + 1) * q := by
  rw [mod_succ, pow_succ', Nat.add_mul]
  have h1 : (low + c' * B) * B ^ j = (c + dg D j * q) * B ^ j := by rw [hc]
  rw [Nat.add_mul, Nat.add_mul] at h1
  have e1 : c' * (B ^ j * B) = c' * B * B ^ j := by rw [Nat.mul_comm (B ^ j), Nat.mul_assoc]
  have e2 : B ^ j * dg D j * q = dg D j * q * B ^ j := by rw [Nat.mul_assoc, Nat.mul_comm]
  rw [e1, e2]
  omega
theorem sub_carry_lt {D q c j : Nat} (h : c * B ^ j ≤ D % B ^ j * q) (hq : q ≤ B) (h0 : 0 < q) : c < B := by
  have h1 : D % B ^ j * q < B ^ j * q := Nat.mul_lt_mul_of_pos_right (mod_lt D j) h0
  have h2 : c * B ^ j < q * B ^ j := by rw [Nat.mul_comm q]; omega
  have := Nat.lt_of_mul_lt_mul_right h2
  omega
/-- The divisor is added back, limb by limb. -/
theorem add_step {N u D c o j : Nat} (h : N % B ^ (o + j) + c * B ^ (o + j) = u % B ^ (o + j) + D % B ^ j * B ^ o) :
    put N (o + j) ((c + (dg u (o + j) + dg D j)) % B) % B ^ (o + (j + 1)) + (c + (dg u (o + j) + dg D j)) / B * B ^ (o + (j + 1)) = u % B ^ (o + (j + 1)) + D % B ^ (j + 1) * B ^ o := by
  rw [show o + (j + 1) = o + j + 1 by omega, mod_succ, put_mod, dg_put_same _ _ (Nat.mod_lt _ B_pos), mod_succ D, mod_succ u, pow_succ']
  have hm := Nat.mod_add_div (c + (dg u (o + j) + dg D j)) B
  have e1 : (D % B ^ j + B ^ j * dg D j) * B ^ o = D % B ^ j * B ^ o + dg D j * B ^ (o + j) := by
    rw [Nat.add_mul, Nat.pow_add, Nat.mul_comm (B ^ j) (dg D j), Nat.mul_comm (B ^ o) (B ^ j), Nat.mul_assoc]
  rw [e1]
  generalize (c + (dg u (o + j) + dg D j)) % B = d at *
  generalize (c + (dg u (o + j) + dg D j)) / B = c' at *
  generalize B ^ (o + j) = p at *
  generalize D % B ^ j * B ^ o = P at *
  have h2 : (d + B * c') * p = (c + (dg u (o + j) + dg D j)) * p := by rw [hm]
  rw [Nat.add_mul, Nat.add_mul, Nat.add_mul] at h2
  have e2 : B * c' * p = c' * (p * B) := by rw [Nat.mul_comm B c', Nat.mul_assoc, Nat.mul_comm B p]
  rw [Nat.mul_comm p d, Nat.mul_comm p (dg u (o + j))]
  omega
end M
end Go.Proofs.YthnbocojjllfaaaGreatDoor
