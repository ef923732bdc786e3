/- Fractions in lowest terms, by Lean's own Rat. No program stands here. -/
namespace Go.Proofs.YtjghgbfagjhdgaaGreatDoor
namespace F
/-- The numerator that Knuth's sum has ahead of its last division, and the common divisor. -/
def pg (x y : Rat) : Nat := x.den.gcd y.den
def pn (x y : Rat) : Int := x.num * ((y.den / pg x y : Nat) : Int) + y.num * ((x.den / pg x y : Nat) : Int)
def pt (x y : Rat) : Nat := (pn x y).natAbs.gcd (pg x y)
theorem pg_pos (x y : Rat) : 0 < pg x y := Nat.gcd_pos_of_pos_left _ x.den_pos
theorem pt_pos (x y : Rat) : 0 < pt x y := Nat.gcd_pos_of_pos_right _ (pg_pos x y)
theorem pt_dvd (x y : Rat) : pt x y ∣ y.den := Nat.dvd_trans (Nat.gcd_dvd_right _ _) (Nat.gcd_dvd_right _ _)
theorem plus_num (x y : Rat) : (x + y).num = pn x y / (pt x y : Int) := by
  show (Rat.add x y).num = _
  unfold Rat.add pt pn pg
  dsimp only
  by_cases h : x.den.gcd y.den = 1
  · rw [dif_pos h]; simp [h]
  · rw [dif_neg h]
    unfold Rat.maybeNormalize
    split
    · rename_i h2
      dsimp only
      rw [h2]; simp
    · simp [Int.divExact]
theorem plus_den (x y : Rat) : (x + y).den = x.den / pg x y * (y.den / pt x y) := by
  have hd := pt_dvd x y
  show (Rat.add x y).den = _
  revert hd
  unfold Rat.add pt pn pg
  dsimp only
  intro hd
  by_cases h : x.den.gcd y.den = 1
  · rw [dif_pos h]; simp [h]
  · rw [dif_neg h]
    unfold Rat.maybeNormalize
    split
    · rename_i h2
      dsimp only
      rw [h2]; simp
    · exact Nat.mul_div_assoc _ hd
/-- The cross divisors of a product. -/
def t1 (x y : Rat) : Nat := x.num.natAbs.gcd y.den
def t2 (x y : Rat) : Nat := y.num.natAbs.gcd x.den
theorem times_num (x y : Rat) : (x * y).num = x.num / (t1 x y : Int) * (y.num / (t2 x y : Int)) := by
  show (Rat.mul x y).num = _
  unfold Rat.mul t1 t2
  simp [Int.divExact]
theorem times_den (x y : Rat) : (x * y).den = x.den / t2 x y * (y.den / t1 x y) := by
  show (Rat.mul x y).den = _
  unfold Rat.mul t1 t2
  simp [Nat.divExact]
/-- The reference's way: divide by the common divisor at the end. -/
theorem ref_plus (x y : Rat) : (x + y).num = (x.num * y.den + y.num * x.den) / (((x.num * y.den + y.num * x.den).natAbs.gcd (x.den * y.den) : Nat) : Int) ∧ (x + y).den = (x.den * y.den) / ((x.num * y.den + y.num * x.den).natAbs.gcd (x.den * y.den)) := by
  rw [Rat.add_def, Rat.normalize_eq]
  exact ⟨rfl, rfl⟩
theorem ref_sub (x y : Rat) : (x - y).num = (x.num * y.den - y.num * x.den) / (((x.num * y.den - y.num * x.den).natAbs.gcd (x.den * y.den) : Nat) : Int) ∧ (x - y).den = (x.den * y.den) / ((x.num * y.den - y.num * x.den).natAbs.gcd (x.den * y.den)) := by
  rw [Rat.sub_def, Rat.normalize_eq]
  exact ⟨rfl, rfl⟩
theorem ref_times (x y : Rat) : (x * y).num = (x.num * y.num) / (((x.num * y.num).natAbs.gcd (x.den * y.den) : Nat) : Int) ∧ (x * y).den = (x.den * y.den) / ((x.num * y.num).natAbs.gcd (x.den * y.den)) := by
  rw [Rat.mul_def, Rat.normalize_eq]
  exact ⟨rfl, rfl⟩
theorem inv_pos {y : Rat} (h : 0 < y.num) : y⁻¹.num = y.den ∧ y⁻¹.den = y.num.natAbs := by
  show (Rat.inv y).num = _ ∧ (Rat.inv y).den = _
  unfold Rat.inv
  rw [dif_neg (by omega), dif_pos h]
  exact ⟨rfl, rfl⟩
theorem inv_neg {y : Rat} (h : y.num < 0) : y⁻¹.num = -y.den ∧ y⁻¹.den = y.num.natAbs := by
  show (Rat.inv y).num = _ ∧ (Rat.inv y).den = _
  unfold Rat.inv
  rw [dif_pos h]
  exact ⟨rfl, rfl⟩
/-- New: num over den in lowest terms, the sign above. -/
theorem new_pos {n d : Int} (h : 0 < d) : (Rat.divInt n d).num = n / ((Nat.gcd n.natAbs d.natAbs : Nat) : Int) ∧ ((Rat.divInt n d).den : Int) = d / ((Nat.gcd n.natAbs d.natAbs : Nat) : Int) := by
  obtain ⟨k, rfl⟩ : ∃ k : Nat, d = (k : Int) := ⟨d.toNat, by omega⟩
  have hk : k ≠ 0 := by omega
  rw [show Rat.divInt n (k : Int) = mkRat n k from rfl, Rat.mkRat_def, dif_neg hk, Rat.normalize_eq]
  exact ⟨by simp, by simp⟩
theorem new_neg {n d : Int} (h : d < 0) : (Rat.divInt n d).num = -(n / ((Nat.gcd n.natAbs d.natAbs : Nat) : Int)) ∧ ((Rat.divInt n d).den : Int) = -(d / ((Nat.gcd n.natAbs d.natAbs : Nat) : Int)) := by
  have h1 := new_pos (n := -n) (d := -d) (by omega)
  have e : Rat.divInt n d = Rat.divInt (-n) (-d) := by rw [Rat.neg_divInt_neg]
  rw [e, h1.1, h1.2, Int.natAbs_neg, Int.natAbs_neg]
  have g1 : ((Nat.gcd n.natAbs d.natAbs : Nat) : Int) ∣ n := Int.ofNat_dvd_left.2 (Nat.gcd_dvd_left _ _)
  have g2 : ((Nat.gcd n.natAbs d.natAbs : Nat) : Int) ∣ d := Int.ofNat_dvd_left.2 (Nat.gcd_dvd_right _ _)
  exact ⟨Int.neg_ediv_of_dvd g1, Int.neg_ediv_of_dvd g2⟩
theorem div_sign {z : Int} {g : Nat} (hg : 0 < g) (hd : (g : Int) ∣ z) : (z / (g : Int) < 0 ↔ z < 0) ∧ (0 < z / (g : Int) ↔ 0 < z) := by
  obtain ⟨k, rfl⟩ := hd
  rw [Int.mul_ediv_cancel_left _ (by omega)]
  have hp : (0 : Int) < g := by omega
  constructor
  · constructor
    · intro h; exact Int.mul_neg_of_pos_of_neg hp h
    · intro h; exact Int.lt_of_mul_lt_mul_left (by rw [Int.mul_zero]; exact h) (Int.le_of_lt hp)
  · constructor
    · intro h; exact Int.mul_pos hp h
    · intro h; exact Int.lt_of_mul_lt_mul_left (by rw [Int.mul_zero]; exact h) (Int.le_of_lt hp)
/-- The sign of a difference, by cross products. -/
theorem cmp_cross (x y : Rat) : ((x - y).num < 0 ↔ x.num * y.den < y.num * x.den) ∧ (0 < (x - y).num ↔ y.num * x.den < x.num * y.den) := by
  have hg : 0 < (x.num * y.den - y.num * x.den).natAbs.gcd (x.den * y.den) := Nat.gcd_pos_of_pos_right _ (Nat.mul_pos x.den_pos y.den_pos)
  have h := div_sign hg (z := x.num * y.den - y.num * x.den) (Int.ofNat_dvd_left.2 (Nat.gcd_dvd_left _ _))
  rw [(ref_sub x y).1]
  exact ⟨h.1.trans (by omega), h.2.trans (by omega)⟩
end F
end Go.Proofs.YtjghgbfagjhdgaaGreatDoor
