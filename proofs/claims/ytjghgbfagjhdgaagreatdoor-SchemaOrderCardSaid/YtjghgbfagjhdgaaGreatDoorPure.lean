/- Plain arithmetic of numbers as digits to the base 2^32: digits, sums, differences, products, quotients. No program stands here. Plain arithmetic of numbers as digits to the base 10^9: digits, sums, differences, products, quotients. No program stands here. Decimal texts: what they spell; the one text of a number. No program stands here. The digits of a number, the lowest first, as they are written; turned round and without zeros in front. More arithmetic of digits to the base 10^9: a number times a limb, subtraction in place, the quotient limb by limb, decimal digits. No program stands here. Long division, plain arithmetic: the estimate of a quotient digit; one round; product subtracted and divisor added back. No program stands here. Lehmer's steps, plain arithmetic: Collins's condition makes all quotients right; what is applied is unimodular. No program stands here. -/
import Derived.Lib.ItoaNum
import Derived.Lib.ParseIntB
import Derived.Lib.Strings
import Derived.Lib.TrimByte
namespace Go.Proofs.YtjghgbfagjhdgaaGreatDoor
namespace M

/-- The base of the limbs. -/
def B : Nat := 4294967296
theorem B_eq : B = 4294967296 := rfl
theorem B_pos : 0 < B := by decide
theorem B_two : 2 ≤ B := by decide
theorem B_one : 1 < B := by decide
attribute [irreducible] B
theorem pow_pos (i : Nat) : 0 < B ^ i := Nat.pow_pos B_pos
theorem pow_succ' (i : Nat) : B ^ (i + 1) = B ^ i * B := Nat.pow_succ B i
theorem pow_mono {i j : Nat} (h : i ≤ j) : B ^ i ≤ B ^ j := Nat.pow_le_pow_right B_pos h
theorem pow_lt {i j : Nat} (h : i < j) : B ^ i < B ^ j := Nat.pow_lt_pow_right B_one h

/-- Digit i of n. -/
def dg (n i : Nat) : Nat := n / B ^ i % B
theorem dg_lt (n i : Nat) : dg n i < B := Nat.mod_lt _ B_pos
theorem dg_le (n i : Nat) : dg n i ≤ 4294967295 := by have := dg_lt n i; rw [B_eq] at this; omega
theorem dg_of_lt {n i : Nat} (h : n < B ^ i) : dg n i = 0 := by
  unfold dg; rw [Nat.div_eq_of_lt h]; exact Nat.zero_mod _
theorem dg_big {n i j : Nat} (h : n < B ^ i) (hj : i ≤ j) : dg n j = 0 := dg_of_lt (Nat.lt_of_lt_of_le h (pow_mono hj))
theorem dg_zero (i : Nat) : dg 0 i = 0 := dg_of_lt (pow_pos i)
theorem mod_succ (n i : Nat) : n % B ^ (i + 1) = n % B ^ i + B ^ i * dg n i := by
  unfold dg; exact Nat.mod_pow_succ
theorem div_succ (n i : Nat) : n / B ^ i = dg n i + B * (n / B ^ (i + 1)) := by
  unfold dg
  rw [pow_succ', ← Nat.div_div_eq_div_mul]
  exact (Nat.mod_add_div _ _).symm
theorem mod_lt (n i : Nat) : n % B ^ i < B ^ i := Nat.mod_lt _ (pow_pos i)
theorem mod_of_lt {n i : Nat} (h : n < B ^ i) : n % B ^ i = n := Nat.mod_eq_of_lt h
theorem split (n i : Nat) : n = n % B ^ i + B ^ i * (n / B ^ i) := (Nat.mod_add_div n (B ^ i)).symm

/-- n with digit k in the place of its own. -/
def put (n k d : Nat) : Nat := n % B ^ k + B ^ k * (d + B * (n / B ^ (k + 1)))
theorem put_mod (n k d : Nat) : put n k d % B ^ k = n % B ^ k := by
  unfold put; rw [Nat.add_mul_mod_self_left]; exact Nat.mod_mod _ _
theorem put_div (n k d : Nat) : put n k d / B ^ k = d + B * (n / B ^ (k + 1)) := by
  unfold put; rw [Nat.add_mul_div_left _ _ (pow_pos k), Nat.div_eq_of_lt (mod_lt n k), Nat.zero_add]
theorem put_div_succ {d : Nat} (n k : Nat) (h : d < B) : put n k d / B ^ (k + 1) = n / B ^ (k + 1) := by
  conv => lhs; rw [pow_succ', ← Nat.div_div_eq_div_mul]
  rw [put_div, Nat.add_mul_div_left _ _ B_pos, Nat.div_eq_of_lt h, Nat.zero_add]
theorem dg_put_same {d : Nat} (n k : Nat) (h : d < B) : dg (put n k d) k = d := by
  unfold dg; rw [put_div, Nat.add_mul_mod_self_left]; exact Nat.mod_eq_of_lt h
theorem dg_mod {n i k : Nat} (h : i < k) : dg (n % B ^ k) i = dg n i := by
  unfold dg
  obtain ⟨e, rfl⟩ : ∃ e, k = i + 1 + e := ⟨k - (i + 1), by omega⟩
  rw [show B ^ (i + 1 + e) = B ^ i * (B * B ^ e) by rw [Nat.pow_add, pow_succ', Nat.mul_assoc], Nat.mod_mul_right_div_self, Nat.mod_mul_right_mod]
theorem dg_div (n i k : Nat) : dg (n / B ^ k) i = dg n (k + i) := by
  unfold dg; rw [Nat.div_div_eq_div_mul, ← Nat.pow_add]
theorem dg_put_other {d k j : Nat} (n : Nat) (h : d < B) (hj : j ≠ k) : dg (put n k d) j = dg n j := by
  rcases Nat.lt_or_ge j k with hlt | hge
  · rw [← dg_mod hlt, put_mod, dg_mod hlt]
  · obtain ⟨e, rfl⟩ : ∃ e, j = k + 1 + e := ⟨j - (k + 1), by omega⟩
    rw [← dg_div, put_div_succ n k h, dg_div]
theorem put_lt {n k d L : Nat} (hn : n < B ^ L) (hk : k < L) (hd : d < B) : put n k d < B ^ L := by
  obtain ⟨e, rfl⟩ : ∃ e, L = k + 1 + e := ⟨L - (k + 1), by omega⟩
  have h := put_div_succ n k hd
  have h1 : n / B ^ (k + 1) < B ^ e := by
    rw [Nat.div_lt_iff_lt_mul (pow_pos _), ← Nat.pow_add, Nat.add_comm]; exact hn
  rw [← h, Nat.div_lt_iff_lt_mul (pow_pos _), ← Nat.pow_add, Nat.add_comm] at h1
  exact h1
theorem put_eq (n k d : Nat) : put n k d + dg n k * B ^ k = n + d * B ^ k := by
  have h := mod_succ n k
  have h2 := split n (k + 1)
  unfold put
  rw [Nat.mul_add, ← Nat.mul_assoc, ← pow_succ']
  generalize B ^ (k + 1) * (n / B ^ (k + 1)) = u at *
  rw [Nat.mul_comm (dg n k), Nat.mul_comm d]
  omega
/-- A digit on top of what lies below it. -/
theorem put_top {n k d : Nat} (hn : n < B ^ k) : put n k d = n + d * B ^ k := by
  have := put_eq n k d
  rw [dg_of_lt hn] at this
  omega

theorem ext {L a b : Nat} (ha : a < B ^ L) (hb : b < B ^ L) (h : ∀ i, i < L → dg a i = dg b i) : a = b := by
  have key : ∀ i, i ≤ L → a % B ^ i = b % B ^ i := by
    intro i
    induction i with
    | zero => intro _; simp [Nat.mod_one]
    | succ i ih => intro hi; rw [mod_succ, mod_succ, ih (by omega), h i (by omega)]
  have := key L (Nat.le_refl _)
  rwa [mod_of_lt ha, mod_of_lt hb] at this

/-- The carry of a sum into place i. -/
def carry (x y i : Nat) : Nat := (x % B ^ i + y % B ^ i) / B ^ i
theorem carry_zero (x y : Nat) : carry x y 0 = 0 := by simp [carry, Nat.mod_one]
theorem carry_le (x y i : Nat) : carry x y i ≤ 1 := by
  unfold carry
  have h1 := mod_lt x i
  have h2 := mod_lt y i
  have : (x % B ^ i + y % B ^ i) / B ^ i < 2 := by
    rw [Nat.div_lt_iff_lt_mul (pow_pos i)]; omega
  omega
theorem carry_succ (x y i : Nat) : carry x y (i + 1) = (carry x y i + (dg x i + dg y i)) / B := by
  unfold carry
  rw [mod_succ, mod_succ, pow_succ', ← Nat.div_div_eq_div_mul]
  congr 1
  rw [show x % B ^ i + B ^ i * dg x i + (y % B ^ i + B ^ i * dg y i) = x % B ^ i + y % B ^ i + B ^ i * (dg x i + dg y i) by rw [Nat.mul_add]; omega]
  rw [Nat.add_mul_div_left _ _ (pow_pos i)]
theorem dg_add (x y i : Nat) : dg (x + y) i = (carry x y i + (dg x i + dg y i)) % B := by
  have h : (x + y) / B ^ i = carry x y i + (x / B ^ i + y / B ^ i) := by
    unfold carry
    conv => lhs; rw [split x i, split y i]
    rw [show x % B ^ i + B ^ i * (x / B ^ i) + (y % B ^ i + B ^ i * (y / B ^ i)) = x % B ^ i + y % B ^ i + B ^ i * (x / B ^ i + y / B ^ i) by rw [Nat.mul_add]; omega]
    rw [Nat.add_mul_div_left _ _ (pow_pos i)]
  unfold dg
  rw [h]
  simp [Nat.add_mod]
theorem mod_succ_add (x y i : Nat) : (x + y) % B ^ (i + 1) = put ((x + y) % B ^ i) i ((carry x y i + (dg x i + dg y i)) % B) := by
  rw [put_top (mod_lt _ _), mod_succ, dg_add, Nat.mul_comm]

/-- The borrow of a difference into place i. -/
def borrow (x y i : Nat) : Nat := if x % B ^ i < y % B ^ i then 1 else 0
theorem borrow_zero (x y : Nat) : borrow x y 0 = 0 := by simp [borrow, Nat.mod_one]
theorem borrow_le (x y i : Nat) : borrow x y i ≤ 1 := by unfold borrow; split <;> omega
theorem lex_lt {p a b c d : Nat} (hb : a < p) (hd : c < p) : a + p * b < c + p * d ↔ b < d ∨ (b = d ∧ a < c) := by
  constructor
  · intro h
    rcases Nat.lt_trichotomy b d with h1 | h1 | h1
    · exact .inl h1
    · subst h1; exact .inr ⟨rfl, by omega⟩
    · exfalso
      have : p * (d + 1) ≤ p * b := Nat.mul_le_mul_left _ h1
      rw [Nat.mul_add] at this
      omega
  · rintro (h | ⟨rfl, h⟩)
    · have : p * (b + 1) ≤ p * d := Nat.mul_le_mul_left _ h
      rw [Nat.mul_add] at this
      omega
    · omega
theorem borrow_succ (x y i : Nat) : borrow x y (i + 1) = if (dg x i : Int) - dg y i - borrow x y i < 0 then 1 else 0 := by
  unfold borrow
  rw [mod_succ, mod_succ]
  have h := lex_lt (p := B ^ i) (a := x % B ^ i) (b := dg x i) (c := y % B ^ i) (d := dg y i) (mod_lt _ _) (mod_lt _ _)
  by_cases h1 : x % B ^ i < y % B ^ i
  · rw [if_pos h1]
    by_cases h2 : dg x i ≤ dg y i
    · rw [if_pos (h.2 (by omega)), if_pos (by omega)]
    · rw [if_neg (fun hh => by rcases h.1 hh with h3 | ⟨h3, _⟩ <;> omega), if_neg (by omega)]
  · rw [if_neg h1]
    by_cases h2 : dg x i < dg y i
    · rw [if_pos (h.2 (by omega)), if_pos (by omega)]
    · rw [if_neg (fun hh => by rcases h.1 hh with h3 | ⟨h3, h4⟩ <;> omega), if_neg (by omega)]
theorem dg_sub {x y : Nat} (hxy : y ≤ x) (i : Nat) : (dg (x - y) i : Int) = ((dg x i : Int) - dg y i - borrow x y i) % B := by
  have hx := split x i
  have hy := split y i
  have hp := pow_pos i
  have hmx := mod_lt x i
  have hmy := mod_lt y i
  -- what stands above place i
  have key : ((x - y) / B ^ i : Nat) + borrow x y i + y / B ^ i = x / B ^ i := by
    unfold borrow
    generalize hX : x % B ^ i = X at *
    generalize hY : y % B ^ i = Y at *
    generalize ha : x / B ^ i = a at *
    generalize hb : y / B ^ i = b at *
    generalize hP : B ^ i = P at *
    have hab : b ≤ a := by
      rcases Nat.lt_or_ge a b with h | h
      · exfalso
        have : P * (a + 1) ≤ P * b := Nat.mul_le_mul_left _ h
        rw [Nat.mul_add] at this; omega
      · exact h
    by_cases h1 : X < Y
    · rw [if_pos h1]
      have hab' : b + 1 ≤ a := by
        rcases Nat.lt_or_ge b a with h | h
        · exact h
        · have : a = b := by omega
          subst this; omega
      obtain ⟨c, rfl⟩ : ∃ c, a = b + 1 + c := ⟨a - (b + 1), by omega⟩
      have e : x - y = (X + P - Y) + P * c := by
        rw [Nat.mul_add, Nat.mul_add] at hx; omega
      rw [e, Nat.add_mul_div_left _ _ hp, Nat.div_eq_of_lt (by omega)]
      omega
    · rw [if_neg h1]
      obtain ⟨c, rfl⟩ : ∃ c, a = b + c := ⟨a - b, by omega⟩
      have e : x - y = (X - Y) + P * c := by
        rw [Nat.mul_add] at hx; omega
      rw [e, Nat.add_mul_div_left _ _ hp, Nat.div_eq_of_lt (by omega)]
      omega
  unfold dg
  have : ((x - y) / B ^ i : Nat) = ((x / B ^ i : Nat) : Int) - (y / B ^ i : Nat) - borrow x y i := by omega
  push_cast at this ⊢
  rw [this]
  rw [Int.sub_emod, Int.sub_emod (_ : Int) ((y : Int) / (B : Int) ^ i)]
  simp [Int.sub_emod]
theorem mod_succ_sub {x y : Nat} (hxy : y ≤ x) (i d : Nat) (hd : (d : Int) = ((dg x i : Int) - dg y i - borrow x y i) % B) : (x - y) % B ^ (i + 1) = put ((x - y) % B ^ i) i d := by
  have : d = dg (x - y) i := by have := dg_sub hxy i; omega
  rw [put_top (mod_lt _ _), mod_succ, this, Nat.mul_comm]

/-- One number times one limb, digit by digit, onto what is there. -/
theorem mul_step {P P0 l y c i j : Nat} (h : P + c * B ^ (i + j) = P0 + l * (y % B ^ j) * B ^ i) :
    put P (i + j) ((c + (l * dg y j + dg P (i + j))) % B) + (c + (l * dg y j + dg P (i + j))) / B * B ^ (i + (j + 1)) = P0 + l * (y % B ^ (j + 1)) * B ^ i := by
  have hp := put_eq P (i + j) ((c + (l * dg y j + dg P (i + j))) % B)
  have hm := Nat.mod_add_div (c + (l * dg y j + dg P (i + j))) B
  generalize hq : (c + (l * dg y j + dg P (i + j))) / B = q at *
  generalize hr : (c + (l * dg y j + dg P (i + j))) % B = r at *
  generalize hu : put P (i + j) r = u at *
  rw [mod_succ, ← Nat.add_assoc, pow_succ']
  have e1 : q * (B ^ (i + j) * B) = (B * q) * B ^ (i + j) := by
    rw [Nat.mul_comm (B ^ (i + j)) B, ← Nat.mul_assoc, Nat.mul_comm q B]
  have e2 : l * (y % B ^ j + B ^ j * dg y j) * B ^ i = l * (y % B ^ j) * B ^ i + l * dg y j * B ^ (i + j) := by
    rw [Nat.mul_add, Nat.add_mul, Nat.pow_add]
    congr 1
    rw [Nat.mul_comm (B ^ j), ← Nat.mul_assoc, Nat.mul_assoc _ (B ^ j) (B ^ i), Nat.mul_comm (B ^ j) (B ^ i)]
  rw [e1, e2]
  have e3 : (r + B * q) * B ^ (i + j) = (c + (l * dg y j + dg P (i + j))) * B ^ (i + j) := by rw [hm]
  rw [Nat.add_mul, Nat.add_mul, Nat.add_mul] at e3
  omega
end M
end Go.Proofs.YtjghgbfagjhdgaaGreatDoor
namespace Go.Proofs.YtjghgbfagjhdgaaGreatDoor
namespace D

/-- The base of the limbs of the reference. -/
def B : Nat := 1000000000
theorem B_eq : B = 1000000000 := rfl
theorem B_pos : 0 < B := by decide
theorem B_two : 2 ≤ B := by decide
theorem B_one : 1 < B := by decide
attribute [irreducible] B
theorem pow_pos (i : Nat) : 0 < B ^ i := Nat.pow_pos B_pos
theorem pow_succ' (i : Nat) : B ^ (i + 1) = B ^ i * B := Nat.pow_succ B i
theorem pow_mono {i j : Nat} (h : i ≤ j) : B ^ i ≤ B ^ j := Nat.pow_le_pow_right B_pos h
theorem pow_lt {i j : Nat} (h : i < j) : B ^ i < B ^ j := Nat.pow_lt_pow_right B_one h

/-- Digit i of n. -/
def dg (n i : Nat) : Nat := n / B ^ i % B
theorem dg_lt (n i : Nat) : dg n i < B := Nat.mod_lt _ B_pos
theorem dg_le (n i : Nat) : dg n i ≤ 999999999 := by have := dg_lt n i; rw [B_eq] at this; omega
theorem dg_of_lt {n i : Nat} (h : n < B ^ i) : dg n i = 0 := by
  unfold dg; rw [Nat.div_eq_of_lt h]; exact Nat.zero_mod _
theorem dg_big {n i j : Nat} (h : n < B ^ i) (hj : i ≤ j) : dg n j = 0 := dg_of_lt (Nat.lt_of_lt_of_le h (pow_mono hj))
theorem dg_zero (i : Nat) : dg 0 i = 0 := dg_of_lt (pow_pos i)
theorem mod_succ (n i : Nat) : n % B ^ (i + 1) = n % B ^ i + B ^ i * dg n i := by
  unfold dg; exact Nat.mod_pow_succ
theorem div_succ (n i : Nat) : n / B ^ i = dg n i + B * (n / B ^ (i + 1)) := by
  unfold dg
  rw [pow_succ', ← Nat.div_div_eq_div_mul]
  exact (Nat.mod_add_div _ _).symm
theorem mod_lt (n i : Nat) : n % B ^ i < B ^ i := Nat.mod_lt _ (pow_pos i)
theorem mod_of_lt {n i : Nat} (h : n < B ^ i) : n % B ^ i = n := Nat.mod_eq_of_lt h
theorem split (n i : Nat) : n = n % B ^ i + B ^ i * (n / B ^ i) := (Nat.mod_add_div n (B ^ i)).symm

/-- n with digit k in the place of its own. -/
def put (n k d : Nat) : Nat := n % B ^ k + B ^ k * (d + B * (n / B ^ (k + 1)))
theorem put_mod (n k d : Nat) : put n k d % B ^ k = n % B ^ k := by
  unfold put; rw [Nat.add_mul_mod_self_left]; exact Nat.mod_mod _ _
theorem put_div (n k d : Nat) : put n k d / B ^ k = d + B * (n / B ^ (k + 1)) := by
  unfold put; rw [Nat.add_mul_div_left _ _ (pow_pos k), Nat.div_eq_of_lt (mod_lt n k), Nat.zero_add]
theorem put_div_succ {d : Nat} (n k : Nat) (h : d < B) : put n k d / B ^ (k + 1) = n / B ^ (k + 1) := by
  conv => lhs; rw [pow_succ', ← Nat.div_div_eq_div_mul]
  rw [put_div, Nat.add_mul_div_left _ _ B_pos, Nat.div_eq_of_lt h, Nat.zero_add]
theorem dg_put_same {d : Nat} (n k : Nat) (h : d < B) : dg (put n k d) k = d := by
  unfold dg; rw [put_div, Nat.add_mul_mod_self_left]; exact Nat.mod_eq_of_lt h
theorem dg_mod {n i k : Nat} (h : i < k) : dg (n % B ^ k) i = dg n i := by
  unfold dg
  obtain ⟨e, rfl⟩ : ∃ e, k = i + 1 + e := ⟨k - (i + 1), by omega⟩
  rw [show B ^ (i + 1 + e) = B ^ i * (B * B ^ e) by rw [Nat.pow_add, pow_succ', Nat.mul_assoc], Nat.mod_mul_right_div_self, Nat.mod_mul_right_mod]
theorem dg_div (n i k : Nat) : dg (n / B ^ k) i = dg n (k + i) := by
  unfold dg; rw [Nat.div_div_eq_div_mul, ← Nat.pow_add]
theorem dg_put_other {d k j : Nat} (n : Nat) (h : d < B) (hj : j ≠ k) : dg (put n k d) j = dg n j := by
  rcases Nat.lt_or_ge j k with hlt | hge
  · rw [← dg_mod hlt, put_mod, dg_mod hlt]
  · obtain ⟨e, rfl⟩ : ∃ e, j = k + 1 + e := ⟨j - (k + 1), by omega⟩
    rw [← dg_div, put_div_succ n k h, dg_div]
theorem put_lt {n k d L : Nat} (hn : n < B ^ L) (hk : k < L) (hd : d < B) : put n k d < B ^ L := by
  obtain ⟨e, rfl⟩ : ∃ e, L = k + 1 + e := ⟨L - (k + 1), by omega⟩
  have h := put_div_succ n k hd
  have h1 : n / B ^ (k + 1) < B ^ e := by
    rw [Nat.div_lt_iff_lt_mul (pow_pos _), ← Nat.pow_add, Nat.add_comm]; exact hn
  rw [← h, Nat.div_lt_iff_lt_mul (pow_pos _), ← Nat.pow_add, Nat.add_comm] at h1
  exact h1
theorem put_eq (n k d : Nat) : put n k d + dg n k * B ^ k = n + d * B ^ k := by
  have h := mod_succ n k
  have h2 := split n (k + 1)
  unfold put
  rw [Nat.mul_add, ← Nat.mul_assoc, ← pow_succ']
  generalize B ^ (k + 1) * (n / B ^ (k + 1)) = u at *
  rw [Nat.mul_comm (dg n k), Nat.mul_comm d]
  omega
/-- A digit on top of what lies below it. -/
theorem put_top {n k d : Nat} (hn : n < B ^ k) : put n k d = n + d * B ^ k := by
  have := put_eq n k d
  rw [dg_of_lt hn] at this
  omega

theorem ext {L a b : Nat} (ha : a < B ^ L) (hb : b < B ^ L) (h : ∀ i, i < L → dg a i = dg b i) : a = b := by
  have key : ∀ i, i ≤ L → a % B ^ i = b % B ^ i := by
    intro i
    induction i with
    | zero => intro _; simp [Nat.mod_one]
    | succ i ih => intro hi; rw [mod_succ, mod_succ, ih (by omega), h i (by omega)]
  have := key L (Nat.le_refl _)
  rwa [mod_of_lt ha, mod_of_lt hb] at this

/-- The carry of a sum into place i. -/
def carry (x y i : Nat) : Nat := (x % B ^ i + y % B ^ i) / B ^ i
theorem carry_zero (x y : Nat) : carry x y 0 = 0 := by simp [carry, Nat.mod_one]
theorem carry_le (x y i : Nat) : carry x y i ≤ 1 := by
  unfold carry
  have h1 := mod_lt x i
  have h2 := mod_lt y i
  have : (x % B ^ i + y % B ^ i) / B ^ i < 2 := by
    rw [Nat.div_lt_iff_lt_mul (pow_pos i)]; omega
  omega
theorem carry_succ (x y i : Nat) : carry x y (i + 1) = (carry x y i + (dg x i + dg y i)) / B := by
  unfold carry
  rw [mod_succ, mod_succ, pow_succ', ← Nat.div_div_eq_div_mul]
  congr 1
  rw [show x % B ^ i + B ^ i * dg x i + (y % B ^ i + B ^ i * dg y i) = x % B ^ i + y % B ^ i + B ^ i * (dg x i + dg y i) by rw [Nat.mul_add]; omega]
  rw [Nat.add_mul_div_left _ _ (pow_pos i)]
theorem dg_add (x y i : Nat) : dg (x + y) i = (carry x y i + (dg x i + dg y i)) % B := by
  have h : (x + y) / B ^ i = carry x y i + (x / B ^ i + y / B ^ i) := by
    unfold carry
    conv => lhs; rw [split x i, split y i]
    rw [show x % B ^ i + B ^ i * (x / B ^ i) + (y % B ^ i + B ^ i * (y / B ^ i)) = x % B ^ i + y % B ^ i + B ^ i * (x / B ^ i + y / B ^ i) by rw [Nat.mul_add]; omega]
    rw [Nat.add_mul_div_left _ _ (pow_pos i)]
  unfold dg
  rw [h]
  simp [Nat.add_mod]
theorem mod_succ_add (x y i : Nat) : (x + y) % B ^ (i + 1) = put ((x + y) % B ^ i) i ((carry x y i + (dg x i + dg y i)) % B) := by
  rw [put_top (mod_lt _ _), mod_succ, dg_add, Nat.mul_comm]

/-- The borrow of a difference into place i. -/
def borrow (x y i : Nat) : Nat := if x % B ^ i < y % B ^ i then 1 else 0
theorem borrow_zero (x y : Nat) : borrow x y 0 = 0 := by simp [borrow, Nat.mod_one]
theorem borrow_le (x y i : Nat) : borrow x y i ≤ 1 := by unfold borrow; split <;> omega
theorem lex_lt {p a b c d : Nat} (hb : a < p) (hd : c < p) : a + p * b < c + p * d ↔ b < d ∨ (b = d ∧ a < c) := by
  constructor
  · intro h
    rcases Nat.lt_trichotomy b d with h1 | h1 | h1
    · exact .inl h1
    · subst h1; exact .inr ⟨rfl, by omega⟩
    · exfalso
      have : p * (d + 1) ≤ p * b := Nat.mul_le_mul_left _ h1
      rw [Nat.mul_add] at this
      omega
  · rintro (h | ⟨rfl, h⟩)
    · have : p * (b + 1) ≤ p * d := Nat.mul_le_mul_left _ h
      rw [Nat.mul_add] at this
      omega
    · omega
theorem borrow_succ (x y i : Nat) : borrow x y (i + 1) = if (dg x i : Int) - dg y i - borrow x y i < 0 then 1 else 0 := by
  unfold borrow
  rw [mod_succ, mod_succ]
  have h := lex_lt (p := B ^ i) (a := x % B ^ i) (b := dg x i) (c := y % B ^ i) (d := dg y i) (mod_lt _ _) (mod_lt _ _)
  by_cases h1 : x % B ^ i < y % B ^ i
  · rw [if_pos h1]
    by_cases h2 : dg x i ≤ dg y i
    · rw [if_pos (h.2 (by omega)), if_pos (by omega)]
    · rw [if_neg (fun hh => by rcases h.1 hh with h3 | ⟨h3, _⟩ <;> omega), if_neg (by omega)]
  · rw [if_neg h1]
    by_cases h2 : dg x i < dg y i
    · rw [if_pos (h.2 (by omega)), if_pos (by omega)]
    · rw [if_neg (fun hh => by rcases h.1 hh with h3 | ⟨h3, h4⟩ <;> omega), if_neg (by omega)]
theorem dg_sub {x y : Nat} (hxy : y ≤ x) (i : Nat) : (dg (x - y) i : Int) = ((dg x i : Int) - dg y i - borrow x y i) % B := by
  have hx := split x i
  have hy := split y i
  have hp := pow_pos i
  have hmx := mod_lt x i
  have hmy := mod_lt y i
  -- what stands above place i
  have key : ((x - y) / B ^ i : Nat) + borrow x y i + y / B ^ i = x / B ^ i := by
    unfold borrow
    generalize hX : x % B ^ i = X at *
    generalize hY : y % B ^ i = Y at *
    generalize ha : x / B ^ i = a at *
    generalize hb : y / B ^ i = b at *
    generalize hP : B ^ i = P at *
    have hab : b ≤ a := by
      rcases Nat.lt_or_ge a b with h | h
      · exfalso
        have : P * (a + 1) ≤ P * b := Nat.mul_le_mul_left _ h
        rw [Nat.mul_add] at this; omega
      · exact h
    by_cases h1 : X < Y
    · rw [if_pos h1]
      have hab' : b + 1 ≤ a := by
        rcases Nat.lt_or_ge b a with h | h
        · exact h
        · have : a = b := by omega
          subst this; omega
      obtain ⟨c, rfl⟩ : ∃ c, a = b + 1 + c := ⟨a - (b + 1), by omega⟩
      have e : x - y = (X + P - Y) + P * c := by
        rw [Nat.mul_add, Nat.mul_add] at hx; omega
      rw [e, Nat.add_mul_div_left _ _ hp, Nat.div_eq_of_lt (by omega)]
      omega
    · rw [if_neg h1]
      obtain ⟨c, rfl⟩ : ∃ c, a = b + c := ⟨a - b, by omega⟩
      have e : x - y = (X - Y) + P * c := by
        rw [Nat.mul_add] at hx; omega
      rw [e, Nat.add_mul_div_left _ _ hp, Nat.div_eq_of_lt (by omega)]
      omega
  unfold dg
  have : ((x - y) / B ^ i : Nat) = ((x / B ^ i : Nat) : Int) - (y / B ^ i : Nat) - borrow x y i := by omega
  push_cast at this ⊢
  rw [this]
  rw [Int.sub_emod, Int.sub_emod (_ : Int) ((y : Int) / (B : Int) ^ i)]
  simp [Int.sub_emod]
theorem mod_succ_sub {x y : Nat} (hxy : y ≤ x) (i d : Nat) (hd : (d : Int) = ((dg x i : Int) - dg y i - borrow x y i) % B) : (x - y) % B ^ (i + 1) = put ((x - y) % B ^ i) i d := by
  have : d = dg (x - y) i := by have := dg_sub hxy i; omega
  rw [put_top (mod_lt _ _), mod_succ, this, Nat.mul_comm]

/-- One number times one limb, digit by digit, onto what is there. -/
theorem mul_step {P P0 l y c i j : Nat} (h : P + c * B ^ (i + j) = P0 + l * (y % B ^ j) * B ^ i) :
    put P (i + j) ((c + (l * dg y j + dg P (i + j))) % B) + (c + (l * dg y j + dg P (i + j))) / B * B ^ (i + (j + 1)) = P0 + l * (y % B ^ (j + 1)) * B ^ i := by
  have hp := put_eq P (i + j) ((c + (l * dg y j + dg P (i + j))) % B)
  have hm := Nat.mod_add_div (c + (l * dg y j + dg P (i + j))) B
  generalize hq : (c + (l * dg y j + dg P (i + j))) / B = q at *
  generalize hr : (c + (l * dg y j + dg P (i + j))) % B = r at *
  generalize hu : put P (i + j) r = u at *
  rw [mod_succ, ← Nat.add_assoc, pow_succ']
  have e1 : q * (B ^ (i + j) * B) = (B * q) * B ^ (i + j) := by
    rw [Nat.mul_comm (B ^ (i + j)) B, ← Nat.mul_assoc, Nat.mul_comm q B]
  have e2 : l * (y % B ^ j + B ^ j * dg y j) * B ^ i = l * (y % B ^ j) * B ^ i + l * dg y j * B ^ (i + j) := by
    rw [Nat.mul_add, Nat.add_mul, Nat.pow_add]
    congr 1
    rw [Nat.mul_comm (B ^ j), ← Nat.mul_assoc, Nat.mul_assoc _ (B ^ j) (B ^ i), Nat.mul_comm (B ^ j) (B ^ i)]
  rw [e1, e2]
  have e3 : (r + B * q) * B ^ (i + j) = (c + (l * dg y j + dg P (i + j))) * B ^ (i + j) := by rw [hm]
  rw [Nat.add_mul, Nat.add_mul, Nat.add_mul] at e3
  omega
end D
end Go.Proofs.YtjghgbfagjhdgaaGreatDoor
namespace Go.Proofs.YtjghgbfagjhdgaaGreatDoor
open Go
namespace T

def digit (c : UInt8) : Bool := decide (48 ≤ c.toNat ∧ c.toNat ≤ 57)
/-- What digits spell, behind a. -/
def numA (a : Nat) (l : List UInt8) : Nat := l.foldl (fun a c => a * 10 + (c.toNat - 48)) a
def num (l : List UInt8) : Nat := numA 0 l
theorem numA_nil (a : Nat) : numA a [] = a := by unfold numA; rw [List.foldl_nil]
theorem numA_cons (a : Nat) (c : UInt8) (l : List UInt8) : numA a (c :: l) = numA (a * 10 + (c.toNat - 48)) l := by unfold numA; rw [List.foldl_cons]
theorem numA_append (a : Nat) (l r : List UInt8) : numA a (l ++ r) = numA (numA a l) r := by simp [numA]
theorem numA_eq (l : List UInt8) : ∀ a, numA a l = a * 10 ^ l.length + numA 0 l := by
  induction l with
  | nil => intro a; rw [numA_nil, numA_nil, List.length_nil, Nat.pow_zero, Nat.mul_one]; rfl
  | cons c l ih =>
    intro a
    rw [numA_cons, numA_cons, ih (a * 10 + (c.toNat - 48)), ih (0 * 10 + (c.toNat - 48)), List.length_cons, Nat.pow_succ]
    generalize c.toNat - 48 = d
    generalize 10 ^ l.length = p
    generalize numA 0 l = n
    rw [Nat.add_mul, Nat.add_mul, Nat.mul_assoc, Nat.mul_comm 10 p]
    omega
theorem snocRec {P : List UInt8 → Prop} (h0 : P []) (h1 : ∀ l c, P l → P (l ++ [c])) (l : List UInt8) : P l := by
  have key : ∀ r : List UInt8, P r.reverse := by
    intro r
    induction r with
    | nil => exact h0
    | cons c r ih => rw [List.reverse_cons]; exact h1 _ _ ih
  have := key l.reverse
  rwa [List.reverse_reverse] at this
theorem num_append (l r : List UInt8) : num (l ++ r) = num l * 10 ^ r.length + num r := by unfold num; rw [numA_append, numA_eq]
theorem num_snoc (l : List UInt8) (c : UInt8) : num (l ++ [c]) = num l * 10 + (c.toNat - 48) := by rw [num_append]; simp [num, numA]
theorem digit_iff {c : UInt8} : digit c = true ↔ 48 ≤ c.toNat ∧ c.toNat ≤ 57 := by simp [digit]
theorem num_lt (l : List UInt8) (h : ∀ c ∈ l, digit c = true) : num l < 10 ^ l.length := by
  revert h
  refine snocRec (P := fun l => (∀ c ∈ l, digit c = true) → num l < 10 ^ l.length) ?_ ?_ l
  · intro _; simp [num, numA]
  · intro l c ih h
    rw [num_snoc, List.length_append, List.length_singleton, Nat.pow_succ]
    have h1 := ih (fun x hx => h x (List.mem_append_left _ hx))
    have h2 := digit_iff.1 (h c (by simp))
    omega

theorem dig_byte {d : Nat} (h : d < 10) : (UInt8.ofNat (48 + d)).toNat = 48 + d := by
  rw [UInt8.toNat_ofNat']; omega
theorem num_decDigits (u : Nat) : num (Lib.decDigits u) = u := by
  induction u using Nat.strongRecOn with
  | _ u ih =>
    rw [Lib.decDigits]
    split
    · rename_i h
      simp only [num, numA, List.foldl_cons, List.foldl_nil, dig_byte h]; omega
    · rename_i h
      rw [num_snoc, ih (u / 10) (by omega), dig_byte (by omega)]; omega
theorem decDigits_digit (u : Nat) : ∀ c ∈ Lib.decDigits u, digit c = true := by
  induction u using Nat.strongRecOn with
  | _ u ih =>
    intro c hc
    rw [Lib.decDigits] at hc
    split at hc
    · rename_i h
      rw [List.mem_singleton] at hc
      rw [hc, digit_iff, dig_byte h]; omega
    · rename_i h
      rcases List.mem_append.1 hc with h1 | h1
      · exact ih (u / 10) (by omega) c h1
      · rw [List.mem_singleton] at h1
        rw [h1, digit_iff, dig_byte (by omega)]; omega
theorem decDigits_ne (u : Nat) : Lib.decDigits u ≠ [] := by
  intro h
  have h1 := Lib.decDigits_length u
  have h2 := Lib.nDigits_pos u
  rw [h] at h1; simp at h1; omega
theorem decDigits_head {u : Nat} (h : 0 < u) : ∀ c r, Lib.decDigits u = c :: r → c ≠ 48 := by
  induction u using Nat.strongRecOn with
  | _ u ih =>
    intro c r e
    rw [Lib.decDigits] at e
    split at e
    · rename_i h1
      injection e with e1 _
      rw [← e1]
      intro e2
      have := congrArg UInt8.toNat e2
      rw [dig_byte h1] at this
      simp at this; omega
    · rename_i h1
      cases hd : Lib.decDigits (u / 10) with
      | nil => exact absurd hd (decDigits_ne _)
      | cons c' r' =>
        rw [hd] at e
        injection e with e1 _
        rw [← e1]
        exact ih (u / 10) (by omega) (by omega) c' r' hd
/-- A text of digits without zeros in front is the one of its number. -/
theorem decDigits_num : ∀ (l : List UInt8), (∀ c ∈ l, digit c = true) → l ≠ [] → (∀ c r, l = c :: r → c ≠ 48) → Lib.decDigits (num l) = l := by
  intro l
  refine snocRec (P := fun l => (∀ c ∈ l, digit c = true) → l ≠ [] → (∀ c r, l = c :: r → c ≠ 48) → Lib.decDigits (num l) = l) ?_ ?_ l
  · intro _ h; exact absurd rfl h
  · intro l c ih hd _ hz
    have hc := digit_iff.1 (hd c (by simp))
    have hb : UInt8.ofNat (48 + (c.toNat - 48)) = c := by
      apply UInt8.toNat.inj
      rw [dig_byte (by omega)]; omega
    rw [num_snoc]
    by_cases hl : l = []
    · subst hl
      rw [show num ([] : List UInt8) = 0 from rfl, Nat.zero_mul, Nat.zero_add, Lib.decDigits, dif_pos (by omega), hb]; rfl
    · have hl1 : ∀ c' r, l = c' :: r → c' ≠ 48 := fun c' r e => hz c' (r ++ [c]) (by rw [e]; rfl)
      have e := ih (fun x hx => hd x (List.mem_append_left _ hx)) hl hl1
      have hpos : 0 < num l := by
        rcases Nat.eq_zero_or_pos (num l) with h0 | h0
        · exfalso
          rw [h0, Lib.decDigits, dif_pos (by omega)] at e
          exact hl1 _ _ e.symm rfl
        · exact h0
      rw [Lib.decDigits, dif_neg (by omega), show (num l * 10 + (c.toNat - 48)) / 10 = num l by omega, e, show (num l * 10 + (c.toNat - 48)) % 10 = c.toNat - 48 by omega, hb]

/-- A chunk of digits is parsed. -/
theorem parseM {M : Nat} : ∀ (l : List UInt8) (a : Nat), (∀ c ∈ l, digit c = true) → numA a l ≤ M → M < 1844674407370955162 → Lib.parseUintM M a l = .ok (numA a l) := by
  intro l
  induction l with
  | nil => intro a _ _ _; rfl
  | cons c l ih =>
    intro a hd hle hM
    have hc := digit_iff.1 (hd c (by simp))
    have h1 : a * 10 + (c.toNat - 48) ≤ numA a (c :: l) := by
      rw [numA_cons, numA_eq]
      have : 1 ≤ 10 ^ l.length := Nat.one_le_pow _ _ (by decide)
      have := Nat.mul_le_mul_left (a * 10 + (c.toNat - 48)) this
      omega
    rw [Lib.parseUintM, if_pos hc, if_neg (by omega), if_neg (by omega), numA_cons]
    exact ih _ (fun x hx => hd x (List.mem_cons_of_mem _ hx)) (by rw [← numA_cons]; exact hle) hM
theorem parse32 {l : List UInt8} (hd : ∀ c ∈ l, digit c = true) (hne : l ≠ []) (hl : l.length ≤ 9) : Lib.parseUintB 32 l = .ok (num l) := by
  unfold Lib.parseUintB
  rw [if_neg hne]
  have h1 := num_lt l hd
  have h2 : 10 ^ l.length ≤ 10 ^ 9 := Nat.pow_le_pow_right (by decide) hl
  exact parseM l 0 hd (show num l ≤ _ by simp; omega) (by simp)

/-- The sign in front of a number's text, and what is behind it. -/
theorem itoa_prefix (z : Int) : Lib.hasPrefix (Lib.itoa z) [45] = decide (z < 0) := by
  unfold Lib.itoa Lib.hasPrefix
  by_cases h : z < 0
  · rw [if_pos h, decide_eq_true h]; simp [List.isPrefixOf]
  · rw [if_neg h, decide_eq_false h]
    cases hd : Lib.decDigits z.toNat with
    | nil => rfl
    | cons c r =>
      have := digit_iff.1 (decDigits_digit z.toNat c (by rw [hd]; simp))
      have hne : ¬ (45 : UInt8) = c := by rintro rfl; simp at this
      simp [List.isPrefixOf, hne]
theorem itoa_trim (z : Int) : Lib.trimPrefix (Lib.itoa z) [45] = Lib.decDigits z.natAbs := by
  unfold Lib.trimPrefix
  rw [itoa_prefix]
  unfold Lib.itoa
  by_cases h : z < 0
  · rw [decide_eq_true h, if_pos rfl, if_pos h]; rfl
  · rw [decide_eq_false h, if_neg (by simp), if_neg h]
    congr 1; omega
theorem itoa_nonneg {z : Int} (h : ¬ z < 0) : Lib.itoa z = Lib.decDigits z.natAbs := by
  unfold Lib.itoa; rw [if_neg h]; congr 1; omega
theorem itoa_neg {z : Int} (h : z < 0) : Lib.itoa z = 45 :: Lib.decDigits z.natAbs := by
  unfold Lib.itoa; rw [if_pos h]
theorem itoa_value (z : Int) : (if decide (z < 0) = true then -(num (Lib.decDigits z.natAbs) : Int) else num (Lib.decDigits z.natAbs)) = z := by
  rw [num_decDigits]
  by_cases h : z < 0
  · rw [decide_eq_true h, if_pos rfl]; omega
  · rw [decide_eq_false h, if_neg (by simp)]; omega
end T
end Go.Proofs.YtjghgbfagjhdgaaGreatDoor
namespace Go.Proofs.YtjghgbfagjhdgaaGreatDoor
open Go
namespace T

def low (n t : Nat) : UInt8 := UInt8.ofNat (48 + n / 10 ^ t % 10)
def lows (n k : Nat) : List UInt8 := (List.range k).map (low n)
theorem lows_length (n k : Nat) : (lows n k).length = k := by simp [lows]
theorem lows_succ (n k : Nat) : lows n (k + 1) = lows n k ++ [low n k] := by simp [lows, List.range_succ]
theorem low_nat (n t : Nat) : (low n t).toNat = 48 + n / 10 ^ t % 10 := dig_byte (by omega)
theorem lows_digit (n k : Nat) : ∀ c ∈ lows n k, digit c = true := by
  intro c hc
  obtain ⟨t, _, rfl⟩ := List.mem_map.1 hc
  rw [digit_iff, low_nat]; omega
theorem num_cons (c : UInt8) (l : List UInt8) : num (c :: l) = (c.toNat - 48) * 10 ^ l.length + num l := by
  have h := num_append [c] l
  rw [List.singleton_append] at h
  rw [h]
  congr 2
  simp [num, numA]
theorem num_lows (n k : Nat) : num (lows n k).reverse = n % 10 ^ k := by
  induction k with
  | zero => simp [lows, num, numA, Nat.mod_one]
  | succ k ih =>
    rw [lows_succ, List.reverse_append, List.reverse_singleton, List.singleton_append, num_cons, ih, List.length_reverse, lows_length, low_nat, Nat.mod_pow_succ, show 48 + n / 10 ^ k % 10 - 48 = n / 10 ^ k % 10 by omega, Nat.mul_comm]
    omega
theorem num_drop (l : List UInt8) : num (l.dropWhile (· == 48)) = num l := by
  induction l with
  | nil => rfl
  | cons c l ih =>
    by_cases h : c = 48
    · subst h
      rw [List.dropWhile_cons_of_pos (by simp), ih, num_cons]
      simp
    · rw [List.dropWhile_cons_of_neg (by simpa using h)]
theorem drop_head (l : List UInt8) : ∀ c r, l.dropWhile (· == 48) = c :: r → c ≠ 48 := by
  intro c r h e
  have := List.head_dropWhile_not (p := fun c : UInt8 => c == 48) (l := l) (by rw [h]; simp)
  simp [h, e] at this
/-- What is written. -/
theorem written {n k : Nat} (h0 : 0 < n) (hk : n < 10 ^ k) : ((lows n k).reverse).dropWhile (· == 48) = Lib.decDigits n := by
  have e : num (((lows n k).reverse).dropWhile (· == 48)) = n := by rw [num_drop, num_lows, Nat.mod_eq_of_lt hk]
  have h := decDigits_num (((lows n k).reverse).dropWhile (· == 48)) (fun c hc => lows_digit n k c (by
    have := (List.dropWhile_sublist (· == 48)).subset hc
    exact List.mem_reverse.1 this)) (by intro h; rw [h] at e; simp [num, numA] at e; omega) (drop_head _)
  rw [e] at h
  exact h.symm
theorem low_chunk (n j t : Nat) (ht : t < 9) : (n / 10 ^ (9 * j)) % 1000000000 / 10 ^ t % 10 = n / 10 ^ (9 * j + t) % 10 := by
  rw [Nat.pow_add, ← Nat.div_div_eq_div_mul]
  generalize n / 10 ^ (9 * j) = m
  obtain ⟨e, he⟩ : ∃ e, 9 = t + 1 + e := ⟨9 - (t + 1), by omega⟩
  rw [show (1000000000 : Nat) = 10 ^ 9 by rfl, he, show (10 : Nat) ^ (t + 1 + e) = 10 ^ t * (10 * 10 ^ e) by rw [Nat.pow_add, Nat.pow_succ, Nat.mul_assoc], Nat.mod_mul_right_div_self, Nat.mod_mul_right_mod]
theorem rest_chunk (n j : Nat) : n / 10 ^ (9 * j) / 1000000000 = n / 10 ^ (9 * (j + 1)) := by
  rw [Nat.div_div_eq_div_mul, show 9 * (j + 1) = 9 * j + 9 by omega, Nat.pow_add]
end T
end Go.Proofs.YtjghgbfagjhdgaaGreatDoor
namespace Go.Proofs.YtjghgbfagjhdgaaGreatDoor
namespace D

/-- What is carried into place i of x * n. -/
def tc (x n i : Nat) : Nat := x % B ^ i * n / B ^ i
theorem tc_zero (x n : Nat) : tc x n 0 = 0 := by simp [tc, Nat.mod_one]
theorem tc_le (x n i : Nat) : tc x n i ≤ n := by
  unfold tc
  have h := Nat.mul_le_mul_right n (Nat.le_of_lt (mod_lt x i))
  have h2 := Nat.div_le_div_right (c := B ^ i) h
  rwa [Nat.mul_div_cancel_left _ (pow_pos i)] at h2
theorem tc_succ (x n i : Nat) : tc x n (i + 1) = (tc x n i + dg x i * n) / B := by
  unfold tc
  rw [mod_succ, pow_succ', ← Nat.div_div_eq_div_mul, Nat.add_mul, Nat.mul_assoc, Nat.add_mul_div_left _ _ (pow_pos i)]
theorem dg_mul (x n i : Nat) : dg (x * n) i = (tc x n i + dg x i * n) % B := by
  have h : x * n / B ^ i = tc x n i + x / B ^ i * n := by
    unfold tc
    conv => lhs; rw [split x i, Nat.add_mul, Nat.mul_assoc]
    rw [Nat.add_mul_div_left _ _ (pow_pos i)]
  unfold dg
  rw [h, Nat.add_mod, Nat.mul_mod, ← Nat.mod_mod (x / B ^ i) B, ← Nat.mul_mod, Nat.mod_mod, ← Nat.add_mod]
theorem times_end {x n l i : Nat} (hx : x < B ^ l) (hn : n < B) (h : l ≤ i) : (0 < tc x n i → i < l + 1) ∧ (tc x n i = 0 → (x * n) % B ^ i = x * n) := by
  have e := mod_of_lt (Nat.lt_of_lt_of_le hx (pow_mono h))
  constructor
  · intro h0
    rcases Nat.lt_or_ge i (l + 1) with h1 | h1
    · exact h1
    · exfalso
      unfold tc at h0
      have h2 : x * n < B ^ (l + 1) := by rw [pow_succ']; exact Nat.mul_lt_mul'' hx hn
      rw [e, Nat.div_eq_of_lt (Nat.lt_of_lt_of_le h2 (pow_mono h1))] at h0
      omega
  · intro h0
    unfold tc at h0
    rw [e] at h0
    rcases Nat.div_eq_zero_iff.1 h0 with h3 | h3
    · have := pow_pos i; omega
    · exact Nat.mod_eq_of_lt h3

/-- The limbs while y is subtracted from x in place, i of them done. -/
def sc (x y i j : Nat) : Int := if j < i then (dg (x - y) j : Int) else if j = i then (dg x i : Int) - borrow x y i else dg x j
theorem sc_zero (x y j : Nat) : sc x y 0 j = dg x j := by
  unfold sc
  rw [if_neg (by omega), borrow_zero]
  by_cases h : j = 0
  · subst h; rw [if_pos rfl]; omega
  · rw [if_neg h]
theorem sc_done {x y i j : Nat} (h : j < i) : sc x y i j = dg (x - y) j := by unfold sc; rw [if_pos h]
theorem sc_at (x y i : Nat) : sc x y i i = (dg x i : Int) - borrow x y i := by unfold sc; rw [if_neg (by omega), if_pos rfl]
theorem sc_far {x y i j : Nat} (h : i < j) : sc x y i j = dg x j := by unfold sc; rw [if_neg (by omega), if_neg (by omega)]
theorem sc_next (x y i : Nat) : sc x y i (i + 1) = dg x (i + 1) := sc_far (by omega)
/-- What stands in place i behind the subtraction. -/
theorem sub_lo {x y i : Nat} (hyx : y ≤ x) (h : 0 ≤ (dg x i : Int) - borrow x y i - dg y i) : (dg (x - y) i : Int) = (dg x i : Int) - borrow x y i - dg y i ∧ borrow x y (i + 1) = 0 := by
  have h1 := dg_sub hyx i
  have h2 := borrow_succ x y i
  have h3 := dg_lt x i
  rw [if_neg (by omega)] at h2
  rw [Int.emod_eq_of_lt (by omega) (by omega)] at h1
  exact ⟨by omega, h2⟩
theorem sub_hi {x y i : Nat} (hyx : y ≤ x) (h : (dg x i : Int) - borrow x y i - dg y i < 0) : (dg (x - y) i : Int) = (dg x i : Int) - borrow x y i - dg y i + B ∧ borrow x y (i + 1) = 1 := by
  have h1 := dg_sub hyx i
  have h2 := borrow_succ x y i
  have h3 := dg_lt y i
  have h4 := borrow_le x y i
  rw [if_pos (by omega)] at h2
  have e : ((dg x i : Int) - dg y i - borrow x y i) % B = (dg x i : Int) - dg y i - borrow x y i + B := by
    rw [← Int.add_emod_right]
    exact Int.emod_eq_of_lt (by omega) (by omega)
  rw [e] at h1
  exact ⟨by omega, h2⟩
theorem borrow_end {x y i L : Nat} (hyx : y ≤ x) (hx : x < B ^ L) (h : borrow x y (i + 1) = 1) (hi : i < L) : i + 1 < L := by
  rcases Nat.lt_or_ge (i + 1) L with h1 | h1
  · exact h1
  · exfalso
    have e : i + 1 = L := by omega
    unfold borrow at h
    rw [e, mod_of_lt hx, mod_of_lt (Nat.lt_of_le_of_lt hyx hx), if_neg (by omega)] at h
    omega
theorem sc_succ_lo {x y i : Nat} (hyx : y ≤ x) (h : 0 ≤ (dg x i : Int) - borrow x y i - dg y i) (j : Nat) :
    sc x y (i + 1) j = if j = i then (dg x i : Int) - borrow x y i - dg y i else sc x y i j := by
  obtain ⟨h1, h2⟩ := sub_lo hyx h
  by_cases e : j = i
  · subst e; rw [if_pos rfl, sc_done (by omega), h1]
  · rw [if_neg e]
    by_cases e2 : j < i
    · rw [sc_done e2, sc_done (by omega)]
    · rw [sc_far (show i < j by omega)]
      by_cases e3 : j = i + 1
      · subst e3; rw [sc_at, h2]; omega
      · rw [sc_far (by omega)]
theorem sc_succ_hi {x y i : Nat} (hyx : y ≤ x) (h : (dg x i : Int) - borrow x y i - dg y i < 0) (j : Nat) :
    sc x y (i + 1) j = if j = i + 1 then (dg x (i + 1) : Int) - 1 else if j = i then (dg x i : Int) - borrow x y i - dg y i + B else sc x y i j := by
  obtain ⟨h1, h2⟩ := sub_hi hyx h
  by_cases e3 : j = i + 1
  · subst e3; rw [if_pos rfl, sc_at, h2]; rfl
  · rw [if_neg e3]
    by_cases e : j = i
    · subst e; rw [if_pos rfl, sc_done (by omega), h1]
    · rw [if_neg e]
      by_cases e2 : j < i
      · rw [sc_done e2, sc_done (by omega)]
      · rw [sc_far (show i < j by omega), sc_far (by omega)]

/-- One more limb of the quotient. -/
theorem rest_succ (X y k : Nat) (hy : 0 < y) : (X / B ^ (k + 1) % y * B + dg X k) % y = X / B ^ k % y ∧ (X / B ^ (k + 1) % y * B + dg X k) / y = dg (X / y) k ∧ X / B ^ (k + 1) % y * B + dg X k < y * B := by
  have h := div_succ X k
  have h1 := Nat.mod_add_div (X / B ^ (k + 1)) y
  have hlt := Nat.mod_lt (X / B ^ (k + 1)) hy
  have hd := dg_lt X k
  generalize hr : X / B ^ (k + 1) % y = r at *
  generalize hq : X / B ^ (k + 1) / y = q at *
  have e : X / B ^ k = (r * B + dg X k) + y * (B * q) := by
    rw [h, ← h1, Nat.mul_add, Nat.mul_comm B r, ← Nat.mul_assoc, ← Nat.mul_assoc, Nat.mul_comm B y]
    omega
  have hb : r * B + dg X k < y * B := by
    have := Nat.mul_le_mul_right B (show r + 1 ≤ y from hlt)
    rw [Nat.add_mul] at this
    omega
  refine ⟨?_, ?_, hb⟩
  · rw [e, Nat.add_mul_mod_self_left]
  · have e2 : dg (X / y) k = (X / B ^ k / y) % B := by
      unfold dg
      rw [Nat.div_div_eq_div_mul, Nat.mul_comm y, ← Nat.div_div_eq_div_mul]
    rw [e2, e, Nat.add_mul_div_left _ _ hy, Nat.add_mul_mod_self_left, Nat.mod_eq_of_lt]
    rw [Nat.div_lt_iff_lt_mul hy, Nat.mul_comm B y]; exact hb
/-- The quotient's limbs from place k on. -/
def hi (q k : Nat) : Nat := q / B ^ k * B ^ k
theorem hi_big {q L : Nat} (h : q < B ^ L) : hi q L = 0 := by unfold hi; rw [Nat.div_eq_of_lt h, Nat.zero_mul]
theorem hi_zero (q : Nat) : hi q 0 = q := by simp [hi]
theorem hi_put (q k : Nat) : put (hi q (k + 1)) k (dg q k) = hi q k := by
  unfold put hi
  rw [pow_succ', ← Nat.mul_assoc, Nat.mul_right_comm, Nat.mul_mod_left, Nat.mul_assoc (q / _) B, Nat.mul_comm B (B ^ k), Nat.mul_div_cancel _ (by rw [← pow_succ']; exact pow_pos _)]
  rw [Nat.zero_add, Nat.mul_comm (B ^ k)]
  congr 1
  rw [← pow_succ']
  exact (div_succ q k).symm
/-- The estimates of a limb of the quotient from the first limbs. -/
theorem est_hi {r y p : Nat} (hy : 0 < y / p) : r / y ≤ r / p / (y / p) := by
  have hp : 0 < p := by
    rcases Nat.eq_zero_or_pos p with h | h
    · subst h; simp at hy
    · exact h
  rw [Nat.div_div_eq_div_mul]
  have h1 : p * (y / p) ≤ y := Nat.mul_div_le _ _
  exact Nat.div_le_div_left h1 (Nat.mul_pos hp hy)
theorem est_lo {r y p : Nat} (hp : 0 < p) (hy : 0 < y) : r / p / (y / p + 1) ≤ r / y := by
  rw [Nat.div_div_eq_div_mul]
  refine Nat.div_le_div_left ?_ hy
  have := Nat.lt_mul_div_succ y hp
  omega
theorem top_two {r n : Nat} (h : r < B ^ (n + 2)) : r / B ^ n = dg r n + dg r (n + 1) * B := by
  have h1 := div_succ r n
  have h2 := div_succ r (n + 1)
  rw [Nat.div_eq_of_lt h, Nat.mul_zero, Nat.add_zero] at h2
  rw [h1, h2, Nat.mul_comm B, Nat.add_zero]
theorem top_one {r n : Nat} (h : r < B ^ (n + 1)) : r / B ^ n = dg r n := by
  have h1 := div_succ r n
  rw [Nat.div_eq_of_lt h, Nat.mul_zero, Nat.add_zero] at h1
  exact h1
theorem top_pos {y n : Nat} (h : B ^ n ≤ y) (h2 : y < B ^ (n + 1)) : 0 < dg y n := by
  rw [← top_one h2]; exact Nat.div_pos h (pow_pos n)

/-- Limbs and decimal digits. -/
theorem B_ten (i : Nat) : B ^ i = 10 ^ (9 * i) := by rw [B_eq, Nat.pow_mul]
theorem dg_ten (n j t : Nat) (ht : t < 9) : dg n j / 10 ^ t % 10 = n / 10 ^ (9 * j + t) % 10 := by
  unfold dg
  rw [B_ten, B_eq]
  exact T.low_chunk n j t ht
theorem ten_lt (k : Nat) : 10 ^ (9 * k) = B ^ k := (B_ten k).symm
/-- The number of decimal digits. -/
theorem nDigits_shift : ∀ (k u : Nat), 0 < u / 10 ^ k → Lib.nDigits u = k + Lib.nDigits (u / 10 ^ k)
  | 0, u, _ => by simp
  | k + 1, u, h => by
    have e : u / 10 ^ (k + 1) = u / 10 / 10 ^ k := by rw [Nat.pow_succ, Nat.mul_comm, Nat.div_div_eq_div_mul]
    rw [e] at h ⊢
    have h10 : ¬ u < 10 := by
      intro h2
      rw [Nat.div_eq_of_lt h2, Nat.zero_div] at h
      omega
    rw [Lib.nDigits_big h10, nDigits_shift k (u / 10) h]
    omega
theorem nDigits_limbs {u L : Nat} (h : u < B ^ (L + 1)) (h0 : B ^ L ≤ u) : Lib.nDigits u = 9 * L + Lib.nDigits (dg u L) := by
  have hp := top_pos h0 h
  rw [← top_one h, B_ten] at hp ⊢
  exact nDigits_shift _ _ hp
theorem nDig_le : ∀ {k a : Nat}, a < 10 ^ (k + 1) → Lib.nDigits a ≤ k + 1
  | 0, a, h => by rw [Lib.nDigits_small (by simpa using h)]; exact Nat.le_refl _
  | k + 1, a, h => by
    by_cases h1 : a < 10
    · rw [Lib.nDigits_small h1]; omega
    · rw [Lib.nDigits_big h1]
      have := nDig_le (k := k) (a := a / 10) (by rw [Nat.pow_succ] at h; omega)
      omega
/-- How many digits are still to be counted. -/
def nd (k : Nat) : Nat := if k = 0 then 0 else Lib.nDigits k
theorem nd_step {k : Nat} (h : 0 < k) : nd k = nd (k / 10) + 1 := by
  unfold nd
  rw [if_neg (by omega)]
  by_cases h1 : k < 10
  · rw [Lib.nDigits_small h1, if_pos (by omega)]
  · rw [Lib.nDigits_big h1, if_neg (by omega)]

/-- A part of a text of digits. -/
theorem num_split (l : List UInt8) (k : Nat) : T.num l = T.num (l.take k) * 10 ^ (l.drop k).length + T.num (l.drop k) := by
  conv => lhs; rw [← List.take_append_drop k l]
  exact T.num_append _ _
theorem num_take {l : List UInt8} (h : ∀ c ∈ l, T.digit c = true) (k : Nat) : T.num (l.take k) = T.num l / 10 ^ (l.length - k) ∧ T.num (l.drop k) = T.num l % 10 ^ (l.length - k) := by
  have h1 := num_split l k
  have h2 := T.num_lt (l.drop k) (fun c hc => h c (List.mem_of_mem_drop hc))
  rw [List.length_drop] at h1 h2
  constructor
  · rw [h1, Nat.mul_comm, Nat.mul_add_div (Nat.pow_pos (by decide)), Nat.div_eq_of_lt h2, Nat.add_zero]
  · rw [h1, Nat.mul_comm, Nat.mul_add_mod, Nat.mod_eq_of_lt h2]
/-- One chunk off the end. -/
theorem chunk {l : List UInt8} (h : ∀ c ∈ l, T.digit c = true) : T.num (l.take (l.length - 9)) = T.num l / B ∧ T.num (l.drop (l.length - 9)) = T.num l % B := by
  have h1 := num_take h (l.length - 9)
  have e : B = 10 ^ 9 := by rw [B_eq]
  by_cases h9 : 9 ≤ l.length
  · rw [show l.length - (l.length - 9) = 9 by omega, ← e] at h1
    exact h1
  · have h2 := T.num_lt l h
    have h3 : T.num l < B := by
      rw [e]
      exact Nat.lt_of_lt_of_le h2 (Nat.pow_le_pow_right (by decide) (by omega))
    rw [show l.length - 9 = 0 by omega, Nat.div_eq_of_lt h3, Nat.mod_eq_of_lt h3]
    exact ⟨rfl, rfl⟩
theorem div_step (u j : Nat) : u / B ^ j / B = u / B ^ (j + 1) := by rw [Nat.div_div_eq_div_mul, ← pow_succ']
theorem mod_step (u j : Nat) : u / B ^ j % B = dg u j := rfl

/-- What is written, behind the zeros. -/
theorem lows_end {z m : Nat} (hz : z < 10 ^ (m + 1)) (h : 10 ^ m ≤ z) : (T.lows z (m + 1)).reverse = Lib.decDigits z := by
  have h0 : 0 < z := Nat.lt_of_lt_of_le (Nat.pow_pos (by decide)) h
  have hw := T.written h0 hz
  rw [← hw]
  rw [T.lows_succ, List.reverse_append, List.reverse_singleton, List.singleton_append, List.dropWhile_cons_of_neg]
  intro hc
  have hc : T.low z m = 48 := by simpa using hc
  have h1 := T.low_nat z m
  rw [hc] at h1
  have h2 : 0 < z / 10 ^ m := Nat.div_pos h (Nat.pow_pos (by decide))
  have h3 : z / 10 ^ m < 10 := by
    rw [Nat.div_lt_iff_lt_mul (Nat.pow_pos (by decide)), Nat.mul_comm, ← Nat.pow_succ]; exact hz
  rw [Nat.mod_eq_of_lt h3] at h1
  have : (48 : UInt8).toNat = 48 := rfl
  omega
theorem low_zero {z m : Nat} (hz : z < 10 ^ (m + 1)) : (T.low z m = 48 ↔ z < 10 ^ m) := by
  have h1 := T.low_nat z m
  have h3 : z / 10 ^ m < 10 := by
    rw [Nat.div_lt_iff_lt_mul (Nat.pow_pos (by decide)), Nat.mul_comm, ← Nat.pow_succ]; exact hz
  rw [Nat.mod_eq_of_lt h3] at h1
  constructor
  · intro hc
    rw [hc] at h1
    have h4 : (48 : UInt8).toNat = 48 := rfl
    rcases Nat.div_eq_zero_iff.1 (show z / 10 ^ m = 0 by omega) with h5 | h5
    · have := Nat.pow_pos (n := m) (show 0 < 10 by decide); omega
    · exact h5
  · intro hlt
    apply UInt8.toNat.inj
    rw [h1, Nat.div_eq_of_lt hlt]; rfl
end D
end Go.Proofs.YtjghgbfagjhdgaaGreatDoor
namespace Go.Proofs.YtjghgbfagjhdgaaGreatDoor
namespace M

theorem est_low {W D p E T Q : Nat} (hE : E * p ≤ D) (hT : W < (T + 1) * p) (hQ : Q * D ≤ W) : Q * E ≤ T := by
  have h1 : Q * E * p ≤ Q * D := by rw [Nat.mul_assoc]; exact Nat.mul_le_mul_left _ hE
  have h2 : Q * E * p < (T + 1) * p := by omega
  have := Nat.lt_of_mul_lt_mul_right h2
  omega
theorem est_step {q f s r x high Q E T : Nat} (hE : E = f * B + s) (hT : T = high * B + x) (hinv : q * f + r = high) (hlow : Q * E ≤ T) (hgt : r * B + x < q * s) : Q < q := by
  have h1 : q * E = q * f * B + q * s := by rw [hE, Nat.mul_add, Nat.mul_assoc]
  have h2 : T = q * f * B + r * B + x := by rw [hT, ← hinv, Nat.add_mul]
  have h3 : Q * E < q * E := by omega
  exact Nat.lt_of_mul_lt_mul_right h3
theorem est_high {W D p E T q : Nat} (hD : D < (E + 1) * p) (hW : T * p ≤ W) (hq : q * E ≤ T) (hqE : q ≤ E) (h0 : 0 < D) : q ≤ W / D + 1 := by
  have h1 : W < (W / D + 1) * D := by
    have := Nat.lt_mul_div_succ W h0
    rw [Nat.mul_comm]; exact this
  generalize W / D = Q at *
  rcases Nat.lt_or_ge (Q + 1) q with h | h
  · exfalso
    obtain ⟨m, rfl⟩ : ∃ m, q = m + 1 := ⟨q - 1, by omega⟩
    have h2 : (Q + 1) * D ≤ m * D := Nat.mul_le_mul_right _ (by omega)
    have h3 : m * D ≤ m * (E + 1) * p := by rw [Nat.mul_assoc]; exact Nat.mul_le_mul_left _ (by omega)
    have h4 : (m + 1) * E * p ≤ T * p := Nat.mul_le_mul_right _ hq
    have h5 : (m + 1) * E * p < m * (E + 1) * p := by omega
    have h6 := Nat.lt_of_mul_lt_mul_right h5
    rw [Nat.add_mul, Nat.mul_add] at h6
    omega
  · exact h
/-- The first estimate is not too small. -/
theorem est_start {W D p f high Q : Nat} (hf : f * p ≤ D) (hW : W < (high + 1) * p) (hQ : Q * D ≤ W) (h0 : 0 < f) : Q ≤ high / f :=
  (Nat.le_div_iff_mul_le h0).2 (est_low hf hW hQ)
/-- Where the rest of the estimate has outgrown a limb, the estimate needs no further test. -/
theorem est_rest {q f s r high x : Nat} (hinv : q * f + r = high) (hh : high ≤ f * B + s) (hs : s < B) (hr : B ≤ r) : q < B ∧ q * s ≤ r * B + x := by
  have hq : q < B := by
    rcases Nat.lt_or_ge q B with h | h
    · exact h
    · have : B * f ≤ q * f := Nat.mul_le_mul_right _ h
      rw [Nat.mul_comm B f] at this
      omega
  refine ⟨hq, ?_⟩
  have h1 : q * s ≤ B * B := Nat.mul_le_mul (Nat.le_of_lt hq) (Nat.le_of_lt hs)
  have h2 : B * B ≤ r * B := Nat.mul_le_mul_right _ hr
  omega

/-- One round: the window's quotient is the digit of the whole quotient. -/
theorem long_digit (Z D i : Nat) : Z % (D * B ^ (i + 1)) / B ^ i / D = dg (Z / D) i := by
  unfold dg
  rw [pow_succ', ← Nat.mul_assoc, Nat.div_div_eq_div_mul, Nat.mul_comm (B ^ i) D, Nat.mod_mul_right_div_self, Nat.div_div_eq_div_mul]
theorem long_rest (Z D i : Nat) : Z % (D * B ^ (i + 1)) = Z % (D * B ^ i) + dg (Z / D) i * (D * B ^ i) := by
  unfold dg
  rw [pow_succ', ← Nat.mul_assoc, Nat.mod_mul, Nat.div_div_eq_div_mul, Nat.mul_comm (D * B ^ i) (_ % B)]
theorem long_window {Z D i : Nat} (h0 : 0 < D) : Z % (D * B ^ (i + 1)) / B ^ i < D * B := by
  have h := Nat.mod_lt Z (Nat.mul_pos h0 (pow_pos (i + 1)))
  rw [Nat.div_lt_iff_lt_mul (pow_pos i), Nat.mul_assoc, Nat.mul_comm B, ← pow_succ']
  exact h

/-- A product is subtracted, limb by limb: what holds behind j limbs holds behind j + 1. The number is N, its digits from o on are changed; u: what the number was. -/
theorem sub_step {N u D q b c o j d low c' b' : Nat} (h : N % B ^ (o + j) + D % B ^ j * q * B ^ o = u % B ^ (o + j) + (b + c) * B ^ (o + j)) (hd : d < B)
    (hc : c + dg D j * q = low + c' * B) (hb : dg u (o + j) + b' * B = d + low + b) :
    put N (o + j) d % B ^ (o + (j + 1)) + D % B ^ (j + 1) * q * B ^ o = u % B ^ (o + (j + 1)) + (b' + c') * B ^ (o + (j + 1)) := by
  rw [show o + (j + 1) = o + j + 1 by omega, mod_succ, put_mod, dg_put_same _ _ hd, mod_succ D, mod_succ u, pow_succ']
  have e1 : (D % B ^ j + B ^ j * dg D j) * q * B ^ o = D % B ^ j * q * B ^ o + dg D j * q * B ^ (o + j) := by
    rw [Nat.add_mul, Nat.add_mul, Nat.pow_add, Nat.mul_comm (B ^ j) (dg D j), Nat.mul_comm (B ^ o) (B ^ j)]
    congr 1
    rw [Nat.mul_assoc (dg D j), Nat.mul_comm (B ^ j) q, ← Nat.mul_assoc, Nat.mul_assoc]
  rw [e1]
  generalize B ^ (o + j) = p at *
  generalize D % B ^ j * q * B ^ o = P at *
  generalize dg D j * q = e at *
  have h2 : (c + e) * p = (low + c' * B) * p := by rw [hc]
  have h3 : (dg u (o + j) + b' * B) * p = (d + low + b) * p := by rw [hb]
  rw [Nat.add_mul, Nat.add_mul] at h2
  rw [Nat.add_mul, Nat.add_mul, Nat.add_mul] at h3
  rw [Nat.add_mul] at h ⊢
  have e2 : b' * B * p = b' * (p * B) := by rw [Nat.mul_assoc, Nat.mul_comm B p]
  have e3 : c' * B * p = c' * (p * B) := by rw [Nat.mul_assoc, Nat.mul_comm B p]
  rw [Nat.mul_comm p d, Nat.mul_comm p (dg u (o + j))]
  omega
/-- The carry of a product of a number and a factor stays within the factor. -/
theorem sub_carry {D q c j low c' : Nat} (h : c * B ^ j ≤ D % B ^ j * q) (hc : c + dg D j * q = low + c' * B) : c' * B ^ (j + 1) ≤ D % B ^ (j + 1) * q := by
  rw [mod_succ, pow_succ', Nat.add_mul]
  have h1 : (low + c' * B) * B ^ j = (c + dg D j * q) * B ^ j := by rw [hc]
  rw [Nat.add_mul, Nat.add_mul] at h1
  have e1 : c' * (B ^ j * B) = c' * B * B ^ j := by rw [Nat.mul_comm (B ^ j), Nat.mul_assoc]
  have e2 : B ^ j * dg D j * q = dg D j * q * B ^ j := by rw [Nat.mul_assoc, Nat.mul_comm]
  rw [e1, e2]
  omega
theorem sub_carry_lt {D q c j : Nat} (h : c * B ^ j ≤ D % B ^ j * q) (hq : q ≤ B) (h0 : 0 < q) : c < B := by
  have h1 : D % B ^ j * q < B ^ j * q := Nat.mul_lt_mul_of_pos_right (mod_lt D j) h0
  have h2 : c * B ^ j < q * B ^ j := by rw [Nat.mul_comm q]; omega
  have := Nat.lt_of_mul_lt_mul_right h2
  omega
/-- The divisor is added back, limb by limb. -/
theorem add_step {N u D c o j : Nat} (h : N % B ^ (o + j) + c * B ^ (o + j) = u % B ^ (o + j) + D % B ^ j * B ^ o) :
    put N (o + j) ((c + (dg u (o + j) + dg D j)) % B) % B ^ (o + (j + 1)) + (c + (dg u (o + j) + dg D j)) / B * B ^ (o + (j + 1)) = u % B ^ (o + (j + 1)) + D % B ^ (j + 1) * B ^ o := by
  rw [show o + (j + 1) = o + j + 1 by omega, mod_succ, put_mod, dg_put_same _ _ (Nat.mod_lt _ B_pos), mod_succ D, mod_succ u, pow_succ']
  have hm := Nat.mod_add_div (c + (dg u (o + j) + dg D j)) B
  have e1 : (D % B ^ j + B ^ j * dg D j) * B ^ o = D % B ^ j * B ^ o + dg D j * B ^ (o + j) := by
    rw [Nat.add_mul, Nat.pow_add, Nat.mul_comm (B ^ j) (dg D j), Nat.mul_comm (B ^ o) (B ^ j), Nat.mul_assoc]
  rw [e1]
  generalize (c + (dg u (o + j) + dg D j)) % B = d at *
  generalize (c + (dg u (o + j) + dg D j)) / B = c' at *
  generalize B ^ (o + j) = p at *
  generalize D % B ^ j * B ^ o = P at *
  have h2 : (d + B * c') * p = (c + (dg u (o + j) + dg D j)) * p := by rw [hm]
  rw [Nat.add_mul, Nat.add_mul, Nat.add_mul] at h2
  have e2 : B * c' * p = c' * (p * B) := by rw [Nat.mul_comm B c', Nat.mul_assoc, Nat.mul_comm B p]
  rw [Nat.mul_comm p d, Nat.mul_comm p (dg u (o + j))]
  omega
end M
end Go.Proofs.YtjghgbfagjhdgaaGreatDoor
namespace Go.Proofs.YtjghgbfagjhdgaaGreatDoor
namespace M

/-- A row of the steps, applied: with the sign of its index. -/
def rho (odd : Bool) (p q : Nat) (x y : Int) : Int := if odd then q * y - p * x else p * x - q * y

/-- What holds before each step of Euclid with the words ah, bh in the place of x, y. -/
structure Leh (x y : Int) (ah bh a b a0 b0 a1 b1 na nb : Nat) (ev : Bool) : Prop where
  hA : a * nb + b * b1 = ah
  hB : a * na + b * a1 = bh
  det : (a1 : Int) * nb - na * b1 = if ev then -1 else 1
  ba : b ≤ a
  le : na ≤ nb
  le0 : b1 ≤ nb
  le1 : a1 ≤ nb
  one : 1 ≤ nb
  now : (b1 = 0 ∧ a1 = 1 ∧ na = 0 ∧ nb = 1 ∧ ev = false ∧ a0 = 0 ∧ b0 = 0 ∧ a = ah ∧ b = bh) ∨
    (a1 ≤ b1 ∧ 1 ≤ b1 ∧ 0 ≤ rho ev a1 b1 x y ∧ rho ev a1 b1 x y < rho (!ev) a0 b0 x y ∧ (b0 = 0 ∨ rho (!ev) a0 b0 x y ≤ y) ∧ rho ev a1 b1 x y ≤ y ∧
      (a0 : Int) * b1 - a1 * b0 = (if ev then 1 else -1) ∧ b1 * b1 ≤ ah ∧ a0 ≤ b1 ∧ b0 ≤ b1)

theorem Leh.start (x y : Int) {ah bh : Nat} (h : bh ≤ ah) : Leh x y ah bh ah bh 0 0 1 0 0 1 false :=
  ⟨by omega, by omega, by decide, h, by omega, by omega, by omega, by omega, .inl ⟨rfl, rfl, rfl, rfl, rfl, rfl, rfl, rfl, rfl⟩⟩

theorem row_even {X Y D xl yl a b a1 b1 na nb ah bh : Int} (hX : X = ah * D + xl) (hY : Y = bh * D + yl) (hA : a * nb + b * b1 = ah) (hB : a * na + b * a1 = bh) (det : a1 * nb - na * b1 = 1) :
    a1 * X - b1 * Y = a * D + a1 * xl - b1 * yl ∧ nb * Y - na * X = b * D + nb * yl - na * xl := by
  constructor <;> grind
theorem row_odd {X Y D xl yl a b a1 b1 na nb ah bh : Int} (hX : X = ah * D + xl) (hY : Y = bh * D + yl) (hA : a * nb + b * b1 = ah) (hB : a * na + b * a1 = bh) (det : a1 * nb - na * b1 = -1) :
    b1 * Y - a1 * X = a * D + b1 * yl - a1 * xl ∧ na * X - nb * Y = b * D + na * xl - nb * yl := by
  constructor <;> grind
/-- A small error does not reach: the bound is strict. -/
theorem over {r e f D xl yl : Int} (hr : e ≤ r) (hf : 0 ≤ f) (hx : 0 ≤ xl) (hxD : xl < D) (hy : 0 ≤ yl) (h1 : 1 ≤ r) : 0 < r * D + f * yl - e * xl := by
  have h2 : 0 ≤ f * yl := Int.mul_nonneg hf hy
  have h3 : e * xl ≤ r * xl := Int.mul_le_mul_of_nonneg_right hr hx
  have h4 : r * xl < r * D := Int.mul_lt_mul_of_pos_left hxD (by omega)
  omega

/-- The step. -/
theorem Leh.step {X Y D xl yl : Int} {ah bh a b a0 b0 a1 b1 na nb : Nat} {ev : Bool} (h : Leh X Y ah bh a b a0 b0 a1 b1 na nb ev)
    (hX : X = (ah : Int) * D + xl) (hY : Y = (bh : Int) * D + yl) (hx : 0 ≤ xl) (hxD : xl < D) (hy : 0 ≤ yl) (hyD : yl < D)
    (c1 : nb ≤ b) (c2 : b1 + nb ≤ a - b) : Leh X Y ah bh b (a % b) a1 b1 na nb (a1 + a / b * na) (b1 + a / b * nb) (!ev) := by
  have h1 := h.one
  have hb0 : 0 < b := by omega
  have hq : 1 ≤ a / b := (Nat.le_div_iff_mul_le hb0).2 (by have := h.ba; omega)
  have hm := Nat.div_add_mod a b
  have hlt := Nat.mod_lt a hb0
  have hle := h.le
  have hle0 := h.le0
  have hle1 := h.le1
  have hba := h.ba
  have hA := h.hA
  have hB := h.hB
  have hdet := h.det
  generalize hqq : a / b = q at *
  generalize hrr : a % b = r at *
  have hqn : nb ≤ q * nb := Nat.le_mul_of_pos_left nb hq
  have hqa : na ≤ q * na := Nat.le_mul_of_pos_left na hq
  have hqq : q * na ≤ q * nb := Nat.mul_le_mul_left q hle
  have hsq : nb * nb ≤ ah := by
    have e1 : nb * nb ≤ a * nb := Nat.mul_le_mul_right nb (by omega)
    have := Nat.zero_le (b * b1)
    omega
  have hAi : (a : Int) * nb + b * b1 = ah := by rw [← hA]; push_cast; rfl
  have hBi : (a : Int) * na + b * a1 = bh := by rw [← hB]; push_cast; rfl
  refine ⟨by grind, by grind, ?_, by omega, ?_, by omega, by omega, by omega, .inr ?_⟩
  · push_cast
    cases ev with
    | true => simp at hdet ⊢; grind
    | false => simp at hdet ⊢; grind
  · rcases h.now with ⟨e1, e2, e3, e4, _⟩ | ⟨e1, _⟩
    · subst e1 e2 e3 e4; simp; omega
    · omega
  · cases ev with
    | false =>
      simp at hdet
      obtain ⟨r1, r2⟩ := row_even hX hY hAi hBi hdet
      have p1 : 0 < (nb : Int) * Y - na * X := by
        rw [r2]; exact over (by omega) (by omega) hx hxD hy (by omega)
      have p2 : 0 < ((a1 : Int) * X - b1 * Y) - (nb * Y - na * X) := by
        have e : ((a1 : Int) * X - b1 * Y) - (nb * Y - na * X) = ((a : Int) - b) * D + (a1 + na) * xl - (b1 + nb) * yl := by rw [r1, r2]; grind
        rw [e]; exact over (by omega) (by omega) hy hyD hx (by omega)
      refine ⟨hle, h1, ?_, ?_, ?_, ?_, ?_, hsq, hle1, hle0⟩
      · simp only [rho, Bool.not_false, if_true]; omega
      · simp only [rho, Bool.not_false, Bool.not_true, if_true]; simp; omega
      · rcases h.now with ⟨e1, _⟩ | ⟨_, _, _, _, _, e2, _⟩
        · exact .inl e1
        · simp only [rho] at e2 ⊢; simp at e2 ⊢; exact .inr e2
      · rcases h.now with ⟨e1, e2, e3, e4, _⟩ | ⟨_, _, _, _, _, e2, _⟩
        · subst e1 e2 e3 e4; simp [rho]
        · simp only [rho] at e2 ⊢; simp at e2 ⊢; omega
      · simp; omega
    | true =>
      simp at hdet
      obtain ⟨r1, r2⟩ := row_odd hX hY hAi hBi hdet
      have hn : a1 ≤ b1 := by
        rcases h.now with ⟨_, _, _, _, e, _⟩ | ⟨e, _⟩
        · cases e
        · exact e
      have p1 : 0 < (na : Int) * X - nb * Y := by
        rw [r2]; exact over (by omega) (by omega) hy hyD hx (by omega)
      have p2 : 0 < ((b1 : Int) * Y - a1 * X) - (na * X - nb * Y) := by
        have e : ((b1 : Int) * Y - a1 * X) - (na * X - nb * Y) = ((a : Int) - b) * D + (b1 + nb) * yl - (a1 + na) * xl := by rw [r1, r2]; grind
        rw [e]; exact over (by omega) (by omega) hx hxD hy (by omega)
      refine ⟨hle, h1, ?_, ?_, ?_, ?_, ?_, hsq, hle1, hle0⟩
      · simp only [rho, Bool.not_true]; simp; omega
      · simp only [rho, Bool.not_false, Bool.not_true, if_true]; simp; omega
      · rcases h.now with ⟨e1, _⟩ | ⟨_, _, _, _, _, e2, _⟩
        · exact .inl e1
        · simp only [rho] at e2 ⊢; simp at e2 ⊢; exact .inr e2
      · rcases h.now with ⟨_, _, _, _, e, _⟩ | ⟨_, _, _, _, _, e2, _⟩
        · cases e
        · simp only [rho] at e2 ⊢; simp at e2 ⊢; omega
      · simp; omega

/-- Nothing overflows in a step. -/
theorem Leh.fits {X Y : Int} {ah bh a b a0 b0 a1 b1 na nb : Nat} {ev : Bool} (h : Leh X Y ah bh a b a0 b0 a1 b1 na nb ev) (c1 : nb ≤ b) :
    b1 + nb ≤ ah ∧ b1 + a / b * nb ≤ ah ∧ a1 + a / b * na ≤ b1 + a / b * nb ∧ a ≤ ah ∧ b ≤ ah := by
  have h1 := h.one
  have hb0 : 0 < b := by omega
  have hba := h.ba
  have hA := h.hA
  have hq : 1 ≤ a / b := (Nat.le_div_iff_mul_le hb0).2 (by omega)
  have hm := Nat.div_add_mod a b
  have hle := h.le
  have hqq : a / b * na ≤ a / b * nb := Nat.mul_le_mul_left _ hle
  have e1 : nb ≤ a * nb := Nat.le_mul_of_pos_left nb (by omega)
  have e2 : b1 ≤ b * b1 := Nat.le_mul_of_pos_left b1 hb0
  have e3 : a ≤ a * nb := Nat.le_mul_of_pos_right a (by omega)
  have hnow := h.now
  generalize a / b = q at *
  generalize a % b = r at *
  refine ⟨by omega, ?_, ?_, by omega, by omega⟩
  · have e4 : ah = b * (b1 + q * nb) + r * nb := by rw [← hA, ← hm]; grind
    have e5 : b1 + q * nb ≤ b * (b1 + q * nb) := Nat.le_mul_of_pos_left _ hb0
    omega
  · rcases hnow with ⟨f1, f2, f3, f4, _⟩ | ⟨f1, _⟩
    · rw [f1, f2, f3, f4]; simp; omega
    · omega

/-- What the steps give: the new numbers u and v. -/
structure Give (x y : Nat) (a0 b0 a1 b1 : Nat) (ev : Bool) (u v : Nat) : Prop where
  hu : (u : Int) = rho (!ev) a0 b0 x y
  hv : (v : Int) = rho ev a1 b1 x y
  lt : v < u
  le : u ≤ y
  gcd : Nat.gcd u v = Nat.gcd x y
  a0 : a0 < B
  b0 : b0 < B
  a1 : a1 < B
  b1 : b1 < B
theorem gcd_rows {x y u v a0 b0 a1 b1 : Nat} (hx : x = b1 * u + b0 * v) (hy : y = a1 * u + a0 * v) (hu : (u : Int) = a0 * x - b0 * y ∨ (u : Int) = b0 * y - a0 * x) (hv : (v : Int) = a1 * x - b1 * y ∨ (v : Int) = b1 * y - a1 * x) : Nat.gcd u v = Nat.gcd x y := by
  have dv : ∀ {d p q n : Nat} (r s : Nat), d ∣ p → d ∣ q → ((n : Int) = r * p - s * q ∨ (n : Int) = s * q - r * p) → d ∣ n := by
    intro d p q n r s hp hq h
    have h1 : (d : Int) ∣ r * p := Int.dvd_trans (Int.natCast_dvd_natCast.2 hp) (Int.dvd_mul_left _ _)
    have h2 : (d : Int) ∣ s * q := Int.dvd_trans (Int.natCast_dvd_natCast.2 hq) (Int.dvd_mul_left _ _)
    rcases h with h | h
    · exact Int.natCast_dvd_natCast.1 (h ▸ Int.dvd_sub h1 h2)
    · exact Int.natCast_dvd_natCast.1 (h ▸ Int.dvd_sub h2 h1)
  apply Nat.dvd_antisymm
  · refine Nat.dvd_gcd ?_ ?_
    · conv => rhs; rw [hx]
      exact Nat.dvd_add (Nat.dvd_trans (Nat.gcd_dvd_left u v) (Nat.dvd_mul_left _ _)) (Nat.dvd_trans (Nat.gcd_dvd_right u v) (Nat.dvd_mul_left _ _))
    · conv => rhs; rw [hy]
      exact Nat.dvd_add (Nat.dvd_trans (Nat.gcd_dvd_left u v) (Nat.dvd_mul_left _ _)) (Nat.dvd_trans (Nat.gcd_dvd_right u v) (Nat.dvd_mul_left _ _))
  · exact Nat.dvd_gcd (dv a0 b0 (Nat.gcd_dvd_left x y) (Nat.gcd_dvd_right x y) hu) (dv a1 b1 (Nat.gcd_dvd_left x y) (Nat.gcd_dvd_right x y) hv)
theorem lt_B {n m : Nat} (h : n * n ≤ m) (hm : m < B * B) : n < B := by
  rcases Nat.lt_or_ge n B with h1 | h1
  · exact h1
  · have := Nat.mul_le_mul h1 h1; omega
theorem rho_scale (o : Bool) (p q : Nat) (x y t : Int) : rho o p q (x * t) (y * t) = rho o p q x y * t := by
  unfold rho; cases o <;> simp <;> grind
theorem Leh.give {x y t ah bh a b a0 b0 a1 b1 na nb : Nat} {ev : Bool} (h : Leh ((x * t : Nat) : Int) ((y * t : Nat) : Int) ah bh a b a0 b0 a1 b1 na nb ev) (ht : 0 < t) (h0 : b0 ≠ 0) (hah : ah < B * B) :
    ∃ u v, Give x y a0 b0 a1 b1 ev u v := by
  rcases h.now with ⟨_, _, _, _, _, _, e, _⟩ | ⟨h1, h2, h3, h4, h5, h6, h7, h8, h9, h10⟩
  · exact absurd e h0
  · have hB := lt_B h8 hah
    push_cast at h3 h4 h5 h6
    rw [rho_scale] at h3 h4 h5 h6
    rw [rho_scale] at h4
    have ht' : (0 : Int) < t := by omega
    have h5' := h5.resolve_left h0
    have k3 : 0 ≤ rho ev a1 b1 x y := Int.le_of_mul_le_mul_right (by omega) ht'
    have k4 : rho ev a1 b1 x y < rho (!ev) a0 b0 x y := Int.lt_of_mul_lt_mul_right h4 (by omega)
    have k5 : rho (!ev) a0 b0 x y ≤ y := Int.le_of_mul_le_mul_right h5' ht'
    obtain ⟨u, hu⟩ := Int.eq_ofNat_of_zero_le (show 0 ≤ rho (!ev) a0 b0 x y by omega)
    obtain ⟨v, hv⟩ := Int.eq_ofNat_of_zero_le k3
    have hxy : (x : Int) = b1 * u + b0 * v ∧ (y : Int) = a1 * u + a0 * v := by
      rw [← hu, ← hv]
      unfold rho
      cases ev <;> simp at h7 ⊢ <;> constructor <;> grind
    refine ⟨u, v, hu.symm, hv.symm, by omega, by omega, gcd_rows (a0 := a0) (b0 := b0) (a1 := a1) (b1 := b1) (by have := hxy.1; norm_cast at this) (by have := hxy.2; norm_cast at this) ?_ ?_, by omega, by omega, by omega, hB⟩
    · rw [← hu]; unfold rho; cases ev <;> simp
    · rw [← hv]; unfold rho; cases ev <;> simp

/-- Two products and their difference, limb by limb. -/
theorem combine_step {R x y a b pc mc bo d b' i : Nat} (hR : R < B ^ i) (h : x % B ^ i * a + (bo + mc) * B ^ i = R + y % B ^ i * b + pc * B ^ i)
    (hd : (pc + dg x i * a) % B + b' * B = d + (mc + dg y i * b) % B + bo) :
    x % B ^ (i + 1) * a + (b' + (mc + dg y i * b) / B) * B ^ (i + 1) = put R i d + y % B ^ (i + 1) * b + (pc + dg x i * a) / B * B ^ (i + 1) := by
  rw [put_top hR, mod_succ, mod_succ, pow_succ']
  have h1 := Nat.mod_add_div (pc + dg x i * a) B
  have h2 := Nat.mod_add_div (mc + dg y i * b) B
  generalize (pc + dg x i * a) % B = e1 at *
  generalize (pc + dg x i * a) / B = e2 at *
  generalize (mc + dg y i * b) % B = e3 at *
  generalize (mc + dg y i * b) / B = e4 at *
  generalize B ^ i = p at *
  generalize dg x i = dx at *
  generalize dg y i = dy at *
  generalize x % p = xm at *
  generalize y % p = ym at *
  generalize B = β at *
  grind
theorem combine_end {R x y a b pc mc bo L u : Nat} (hx : x < B ^ L) (hy : y < B ^ L) (hR : R < B ^ L) (hu : (u : Int) = a * x - b * y) (hL : u < B ^ L)
    (h : x % B ^ L * a + (bo + mc) * B ^ L = R + y % B ^ L * b + pc * B ^ L) : R = u := by
  rw [mod_of_lt hx, mod_of_lt hy] at h
  generalize B ^ L = p at *
  have h1 : (u : Int) + ((bo : Int) + mc - pc) * p = R := by
    have : ((x * a + (bo + mc) * p : Nat) : Int) = ((R + y * b + pc * p : Nat) : Int) := by rw [h]
    push_cast at this
    grind
  rcases Int.lt_trichotomy ((bo : Int) + mc - pc) 0 with h2 | h2 | h2
  · have : ((bo : Int) + mc - pc) * p ≤ -1 * p := Int.mul_le_mul_of_nonneg_right (by omega) (by omega)
    omega
  · rw [h2] at h1; omega
  · have : 1 * (p : Int) ≤ ((bo : Int) + mc - pc) * p := Int.mul_le_mul_of_nonneg_right (by omega) (by omega)
    omega
theorem carry_le32 {c d f : Nat} (hc : c ≤ 4294967295) (hd : d ≤ 4294967295) (hf : f ≤ 4294967295) : (c + d * f) / B ≤ 4294967295 ∧ c + d * f ≤ 18446744073709551615 := by
  have h := Nat.mul_le_mul hd hf
  rw [B_eq]
  generalize d * f = t at *
  omega

theorem B_two_pow {s : Nat} (hs : s < 32) : B = 2 ^ s * 2 ^ (32 - s) := by
  rw [B_eq, ← Nat.pow_add, show s + (32 - s) = 32 by omega]
theorem shift_div {p q d e : Nat} (hp : 0 < p) (he : e < p) : (d * p + e) / (p * q) = d * p / (p * q) := by
  rw [← Nat.div_div_eq_div_mul, ← Nat.div_div_eq_div_mul, Nat.mul_div_cancel _ hp, Nat.add_comm, Nat.add_mul_div_right _ _ hp, Nat.div_eq_of_lt he, Nat.zero_add]
theorem top_sum {T r P s c : Nat} (hP : 0 < P) (hc : r * 2 ^ s / P = c) : (r + P * T) * 2 ^ s / P = T * 2 ^ s + c := by
  rw [Nat.add_mul, Nat.mul_assoc, Nat.add_mul_div_left _ _ hP, hc, Nat.add_comm]
theorem top_rest {d l s p : Nat} (hs : s < 32) (hp : 0 < p) (hl : l < p) : (l + p * d) * 2 ^ s / (p * B) = d * 2 ^ s / B := by
  have he : l * 2 ^ s / p < 2 ^ s := by
    rw [Nat.div_lt_iff_lt_mul hp, Nat.mul_comm (2 ^ s)]
    exact Nat.mul_lt_mul_of_pos_right hl (Nat.pow_pos (by decide))
  rw [← Nat.div_div_eq_div_mul, Nat.add_mul, Nat.mul_assoc, Nat.add_mul_div_left _ _ hp]
  generalize l * 2 ^ s / p = e at *
  have hB := B_two_pow hs
  generalize B = β at *
  subst hB
  rw [Nat.add_comm e]
  exact shift_div (Nat.pow_pos (by decide)) he
/-- The highest 64 bits. -/
theorem top_val {m s z : Nat} (hs : s < 32) (hz : z < B ^ (m + 3)) :
    (dg z (m + 2) * B + dg z (m + 1)) * 2 ^ s + dg z m * 2 ^ s / B = z * 2 ^ s / B ^ (m + 1) := by
  have h1 := div_succ z (m + 1)
  have h2 := div_succ z (m + 2)
  rw [show m + 2 + 1 = m + 3 by omega, Nat.div_eq_of_lt hz] at h2
  rw [show m + 1 + 1 = m + 2 by omega] at h1
  have h4 := split z (m + 1)
  have h5 := top_rest (d := dg z m) hs (pow_pos m) (mod_lt z m)
  rw [← mod_succ, ← pow_succ'] at h5
  have h6 := top_sum (T := z / B ^ (m + 1)) (pow_pos (m + 1)) h5
  rw [← h4] at h6
  rw [h6]
  generalize B ^ (m + 1) = p at *
  generalize B ^ (m + 2) = q at *
  generalize dg z (m + 2) = d2 at *
  generalize dg z (m + 1) = d1 at *
  have h7 : d2 * B + d1 = z / p := by rw [h1, h2, Nat.mul_zero, Nat.add_zero, Nat.mul_comm B]; exact Nat.add_comm _ _
  rw [h7]
end M
end Go.Proofs.YtjghgbfagjhdgaaGreatDoor
