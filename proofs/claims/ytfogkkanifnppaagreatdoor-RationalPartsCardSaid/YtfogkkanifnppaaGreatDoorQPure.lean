/- Fractions: signs, floors, parts. No program stands here but for the words cmpI and sgn. -/
import Derived.Test.YtfogkkanifnppaaGreatDoorQLong
namespace Go.Proofs.YtfogkkanifnppaaGreatDoor
open Go Go.RowKit

theorem cmp_is_sgn (x y : Rat) : cmpI (x.num * y.den) (y.num * x.den) = sgn (x - y).num := by
  have h := F.cmp_cross x y
  unfold cmpI sgn
  by_cases h1 : x.num * y.den < y.num * x.den
  · rw [if_pos h1, if_pos (h.1.2 h1)]
  · rw [if_neg h1, if_neg (fun e => h1 (h.1.1 e))]
    by_cases h2 : y.num * x.den < x.num * y.den
    · rw [if_pos h2, if_pos (h.2.2 h2)]
    · rw [if_neg h2, if_neg (fun e => h2 (h.2.1 e))]
theorem cast_succ (z : Int) : (z : Rat) + 1 = ((z + 1 : Int) : Rat) := by
  rw [show ((z + 1 : Int) : Rat) = (z : Rat) + ((1 : Int) : Rat) from Rat.intCast_add z 1]; rfl
theorem floor_le (x : Rat) : cmpI ((((x.num / (x.den : Int) : Int) : Rat)).num * x.den) (x.num * ((((x.num / (x.den : Int) : Int) : Rat)).den : Int)) ≤ 0 := by
  show cmpI (x.num / (x.den : Int) * x.den) (x.num * ((1 : Nat) : Int)) ≤ 0
  have h := Int.ediv_mul_le x.num (b := (x.den : Int)) (by have := x.den_pos; omega)
  unfold cmpI
  split
  · omega
  · split
    · rename_i h2; simp at h2; omega
    · omega
theorem lt_floor (x : Rat) : cmpI (x.num * ((((x.num / (x.den : Int) : Int) : Rat) + 1).den : Int)) ((((x.num / (x.den : Int) : Int) : Rat) + 1).num * x.den) < 0 := by
  rw [cast_succ]
  show cmpI (x.num * ((1 : Nat) : Int)) ((x.num / (x.den : Int) + 1) * x.den) < 0
  have h := Int.lt_ediv_add_one_mul_self x.num (b := (x.den : Int)) (by have := x.den_pos; omega)
  unfold cmpI
  rw [if_pos (by simpa using h)]
  omega
theorem sgn_mul (a b : Int) : sgn (a * b) = sgn a * sgn b := by
  unfold sgn
  rcases Int.lt_trichotomy a 0 with h | h | h <;> rcases Int.lt_trichotomy b 0 with h' | h' | h'
  · have := Int.mul_pos_of_neg_of_neg h h'; rw [if_neg (by omega), if_pos this, if_pos h, if_pos h']; rfl
  · subst h'; simp
  · have := Int.mul_neg_of_neg_of_pos h h'; rw [if_pos this, if_pos h, if_neg (by omega), if_pos h']; rfl
  · subst h; simp
  · subst h; simp
  · subst h; simp
  · have := Int.mul_neg_of_pos_of_neg h h'; rw [if_pos this, if_neg (by omega), if_pos h, if_pos h']; rfl
  · subst h'; simp
  · have := Int.mul_pos h h'; rw [if_neg (by omega), if_pos this, if_neg (by omega), if_pos h, if_neg (by omega), if_pos h']; rfl
theorem sgn_ediv {z : Int} {g : Nat} (hg : 0 < g) (hd : (g : Int) ∣ z) : sgn (z / (g : Int)) = sgn z := by
  have h := F.div_sign hg hd
  unfold sgn
  by_cases h1 : z < 0
  · rw [if_pos h1, if_pos (h.1.2 h1)]
  · rw [if_neg h1, if_neg (fun e => h1 (h.1.1 e))]
    by_cases h2 : 0 < z
    · rw [if_pos h2, if_pos (h.2.2 h2)]
    · rw [if_neg h2, if_neg (fun e => h2 (h.2.1 e))]
theorem sgn_times (x y : Rat) : sgn (x * y).num = sgn x.num * sgn y.num := by
  have h1 : sgn (x.num / (F.t1 x y : Int)) = sgn x.num := sgn_ediv (Nat.gcd_pos_of_pos_right _ y.den_pos) (Int.ofNat_dvd_left.2 (Nat.gcd_dvd_left _ _))
  have h2 : sgn (y.num / (F.t2 x y : Int)) = sgn y.num := sgn_ediv (Nat.gcd_pos_of_pos_right _ x.den_pos) (Int.ofNat_dvd_left.2 (Nat.gcd_dvd_left _ _))
  rw [F.times_num, sgn_mul, h1, h2]
theorem sgn_bounds (z : Int) : -1 ≤ sgn z ∧ sgn z ≤ 1 := by unfold sgn; split <;> (try split) <;> omega
theorem mean_lo (a b : Rat) : a - (a + b) / 2 = (a - b) * (1 / 2) := by grind
theorem mean_hi (a b : Rat) : (a + b) / 2 - b = (a - b) * (1 / 2) := by grind
theorem mean_lo' (a b : Rat) : b - (a + b) / 2 = (b - a) * (1 / 2) := by grind
theorem mean_hi' (a b : Rat) : (a + b) / 2 - a = (b - a) * (1 / 2) := by grind
theorem half_pos : sgn ((1 / 2 : Rat)).num = 1 := by decide +kernel
theorem sgn_neg (z : Int) : sgn (-z) = -sgn z := by unfold sgn; split <;> split <;> (try split) <;> (try split) <;> omega
theorem sgn_swap (a b : Rat) : sgn (b - a).num = -sgn (a - b).num := by
  rw [show b - a = -(a - b) by grind]
  exact sgn_neg _
/-- A whole number more. -/
theorem plus_whole (x : Rat) (n : Int) : (x + (n : Rat)).num = x.num + n * (x.den : Int) ∧ (x + (n : Rat)).den = x.den := by
  have h := F.ref_plus x (n : Rat)
  have e1 : ((n : Rat)).num = n := rfl
  have e2 : ((n : Rat)).den = 1 := rfl
  rw [e1, e2] at h
  have hg : (x.num * ((1 : Nat) : Int) + n * (x.den : Int)).natAbs.gcd (x.den * 1) = 1 := by
    rw [show x.num * ((1 : Nat) : Int) = x.num by simp, Nat.mul_one]
    have h1 : Int.gcd (x.num + n * (x.den : Int)) (x.den : Int) = Int.gcd x.num (x.den : Int) := by
      rw [Int.gcd_add_mul_right_left]
    have h2 : Int.gcd x.num (x.den : Int) = 1 := x.reduced
    exact h1.trans h2
  rw [hg] at h
  simpa using h
theorem floor_plus (x : Rat) (n : Int) : (x + (n : Rat)).num / ((x + (n : Rat)).den : Int) = x.num / (x.den : Int) + n := by
  obtain ⟨h1, h2⟩ := plus_whole x n
  rw [h1, h2, Int.add_mul_ediv_right _ _ (by have := x.den_pos; omega)]
theorem floor_neg (x : Rat) : x.num / (x.den : Int) + (-x).num / ((-x).den : Int) = if x.den = 1 then 0 else -1 := by
  have hp := x.den_pos
  show x.num / (x.den : Int) + (-x.num) / (x.den : Int) = _
  by_cases h : x.den = 1
  · rw [if_pos h, h]; simp; omega
  · rw [if_neg h]
    have hnd : ¬ (x.den : Int) ∣ x.num := by
      intro hd
      have h1 : x.den ∣ x.num.natAbs := by simpa using Int.natAbs_dvd_natAbs.2 hd
      have h2 : Nat.gcd x.num.natAbs x.den = x.den := Nat.gcd_eq_right h1
      have h3 : Nat.gcd x.num.natAbs x.den = 1 := x.reduced
      omega
    have e1 := Int.mul_ediv_add_emod x.num (x.den : Int)
    have e2 := Int.mul_ediv_add_emod (-x.num) (x.den : Int)
    have b1 := Int.emod_nonneg x.num (b := (x.den : Int)) (by omega)
    have b2 := Int.emod_lt_of_pos x.num (b := (x.den : Int)) (by omega)
    have b3 := Int.emod_nonneg (-x.num) (b := (x.den : Int)) (by omega)
    have b4 := Int.emod_lt_of_pos (-x.num) (b := (x.den : Int)) (by omega)
    have b5 : x.num % (x.den : Int) ≠ 0 := fun e => hnd (Int.dvd_of_emod_eq_zero e)
    have b6 : (x.den : Int) * (x.num / (x.den : Int) + -x.num / (x.den : Int)) = -(x.num % (x.den : Int) + -x.num % (x.den : Int)) := by rw [Int.mul_add]; omega
    generalize x.num / (x.den : Int) + -x.num / (x.den : Int) = S at *
    generalize x.num % (x.den : Int) = r1 at *
    generalize -x.num % (x.den : Int) = r2 at *
    generalize (x.den : Int) = d at *
    have c1 : d * S < 0 := by omega
    have c2 : -(2 * d) < d * S := by omega
    have c3 : S < 0 := by
      rcases Classical.em (S < 0) with h | h
      · exact h
      · have h := Int.not_lt.1 h
        have := Int.mul_nonneg (show 0 ≤ d by omega) h; omega
    have c4 : -2 < S := by
      rcases Classical.em (-2 < S) with h | h
      · exact h
      · have h := Int.not_lt.1 h
        have := Int.mul_le_mul_of_nonneg_left h (show 0 ≤ d by omega); omega
    omega
theorem inv_inv' (a : Rat) : 1 / (1 / a) = a := by grind
end Go.Proofs.YtfogkkanifnppaaGreatDoor
