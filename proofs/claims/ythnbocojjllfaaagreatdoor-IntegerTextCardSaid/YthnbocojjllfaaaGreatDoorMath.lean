/- Plain arithmetic of numbers as digits to the base 2^32: digits, sums, differences, products, quotients. No program stands here. -/
namespace Go.Proofs.YthnbocojjllfaaaGreatDoor
namespace M

/-- The base of the limbs. -/
def B : Nat := 4294967296
theorem B_eq : B = 4294967296 := rfl
theorem B_pos : 0 < B := by decide
theorem B_two : 2 ≤ B := by decide
theorem B_one : 1 < B := by decide
attribute [irreducible] B
theorem pow_pos (i : Nat) : 0 < B ^ i := Nat.pow_pos B_pos
theorem pow_succ' (i : Nat) : B ^ (i + 1) = B ^ i * B := Nat.pow_succ B i
theorem pow_mono {i j : Nat} (h : i ≤ j) : B ^ i ≤ B ^ j := Nat.pow_le_pow_right B_pos h
theorem pow_lt {i j : Nat} (h : i < j) : B ^ i < B ^ j := Nat.pow_lt_pow_right B_one h

/-- Digit i of n. -/
def dg (n i : Nat) : Nat := n / B ^ i % B
theorem dg_lt (n i : Nat) : dg n i < B := Nat.mod_lt _ B_pos
theorem dg_le (n i : Nat) : dg n i ≤ 4294967295 := by have := dg_lt n i; rw [B_eq] at this; omega
theorem dg_of_lt {n i : Nat} (h : n < B ^ i) : dg n i = 0 := by
  unfold dg; rw [Nat.div_eq_of_lt h]; exact Nat.zero_mod _
theorem dg_big {n i j : Nat} (h : n < B ^ i) (hj : i ≤ j) : dg n j = 0 := dg_of_lt (Nat.lt_of_lt_of_le h (pow_mono hj))
theorem dg_zero (i : Nat) : dg 0 i = 0 := dg_of_lt (pow_pos i)
theorem mod_succ (n i : Nat) : n % B ^ (i + 1) = n % B ^ i + B ^ i * dg n i := by
  unfold dg; exact Nat.mod_pow_succ
theorem div_succ (n i : Nat) : n / B ^ i = dg n i + B * (n / B ^ (i + 1)) := by
  unfold dg
  rw [pow_succ', ← Nat.div_div_eq_div_mul]
  exact (Nat.mod_add_div _ _).symm
theorem mod_lt (n i : Nat) : n % B ^ i < B ^ i := Nat.mod_lt _ (pow_pos i)
theorem mod_of_lt {n i : Nat} (h : n < B ^ i) : n % B ^ i = n := Nat.mod_eq_of_lt h
theorem split (n i : Nat) : n = n % B ^ i + B ^ i * (n / B ^ i) := (Nat.mod_add_div n (B ^ i)).symm

/-- n with digit k in the place of its own. -/
def put (n k d : Nat) : Nat := n % B ^ k + B ^ k * (d + B * (n / B ^ (k + 1)))
theorem put_mod (n k d : Nat) : put n k d % B ^ k = n % B ^ k := by
  unfold put; rw [Nat.add_mul_mod_self_left]; exact Nat.mod_mod _ _
theorem put_div (n k d : Nat) : put n k d / B ^ k = d + B * (n / B ^ (k + 1)) := by
  unfold put; rw [Nat.add_mul_div_left _ _ (pow_pos k), Nat.div_eq_of_lt (mod_lt n k), Nat.zero_add]
theorem put_div_succ {d : Nat} (n k : Nat) (h : d < B) : put n k d / B ^ (k + 1) = n / B ^ (k + 1) := by
  conv => lhs; rw [pow_succ', ← Nat.div_div_eq_div_mul]
  rw [put_div, Nat.add_mul_div_left _ _ B_pos, Nat.div_eq_of_lt h, Nat.zero_add]
theorem dg_put_same {d : Nat} (n k : Nat) (h : d < B) : dg (put n k d) k = d := by
  unfold dg; rw [put_div, Nat.add_mul_mod_self_left]; exact Nat.mod_eq_of_lt h
theorem dg_mod {n i k : Nat} (h : i < k) : dg (n % B ^ k) i = dg n i := by
  unfold dg
  obtain ⟨e, rfl⟩ : ∃ e, k = i + 1 + e := ⟨k - (i + 1), by omega⟩
  rw [show B ^ (i + 1 + e) = B ^ i * (B * B ^ e) by rw [Nat.pow_add, pow_succ', Nat.mul_assoc], Nat.mod_mul_right_div_self, Nat.mod_mul_right_mod]
theorem dg_div (n i k : Nat) : dg (n / B ^ k) i = dg n (k + i) := by
  unfold dg; rw [Nat.div_div_eq_div_mul, ← Nat.pow_add]
theorem dg_put_other {d k j : Nat} (n : Nat) (h : d < B) (hj : j ≠ k) : dg (put n k d) j = dg n j := by
  rcases Nat.lt_or_ge j k with hlt | hge
  · rw [← dg_mod hlt, put_mod, dg_mod hlt]
  · obtain ⟨e, rfl⟩ : ∃ e, j = k + 1 + e := ⟨j - (k + 1), by omega⟩
    rw [← dg_div, put_div_succ n k h, dg_div]
theorem put_lt {n k d L : Nat} (hn : n < B ^ L) (hk : k < L) (hd : d < B) : put n k d < B ^ L := by
  obtain ⟨e, rfl⟩ : ∃ e, L = k + 1 + e := ⟨L - (k + 1), by omega⟩
  have h := put_div_succ n k hd
  have h1 : n / B ^ (k + 1) < B ^ e := by
    rw [Nat.div_lt_iff_lt_mul (pow_pos _), ← Nat.pow_add, Nat.add_comm]; exact hn
  rw [← h, Nat.div_lt_iff_lt_mul (pow_pos _), ← Nat.pow_add, Nat.add_comm] at h1
  exact h1
theorem put_eq (n k d : Nat) : put n k d + dg n k * B ^ k = n + d * B ^ k := by
  have h := mod_succ n k
  have h2 := split n (k + 1)
  unfold put
  rw [Nat.mul_add, ← Nat.mul_assoc, ← pow_succ']
  generalize B ^ (k + 1) * (n / B ^ (k + 1)) = u at *
  rw [Nat.mul_comm (dg n k), Nat.mul_comm d]
  omega
/-- A digit on top of what lies below it. -/
theorem put_top {n k d : Nat} (hn : n < B ^ k) : put n k d = n + d * B ^ k := by
  have := put_eq n k d
  rw [dg_of_lt hn] at this
  omega

theorem ext {L a b : Nat} (ha : a < B ^ L) (hb : b < B ^ L) (h : ∀ i, i < L → dg a i = dg b i) : a = b := by
  have key : ∀ i, i ≤ L → a % B ^ i = b % B ^ i := by
    intro i
    induction i with
    | zero => intro _; simp [Nat.mod_one]
    | succ i ih => intro hi; rw [mod_succ, mod_succ, ih (by omega), h i (by omega)]
  have := key L (Nat.le_refl _)
  rwa [mod_of_lt ha, mod_of_lt hb] at this

/-- The carry of a sum into place i. -/
def carry (x y i : Nat) : Nat := (x % B ^ i + y % B ^ i) / B ^ i
theorem carry_zero (x y : Nat) : carry x y 0 = 0 := by simp [carry, Nat.mod_one]
theorem carry_le (x y i : Nat) : carry x y i ≤ 1 := by
  unfold carry
  have h1 := mod_lt x i
  have h2 := mod_lt y i
  have : (x % B ^ i + y % B ^ i) / B ^ i < 2 := by
    rw [Nat.div_lt_iff_lt_mul (pow_pos i)]; omega
  omega
theorem carry_succ (x y i : Nat) : carry x y (i + 1) = (carry x y i + (dg x i + dg y i)) / B := by
  unfold carry
  rw [mod_succ, mod_succ, pow_succ', ← Nat.div_div_eq_div_mul]
  congr 1
  rw [show x % B ^ i + B ^ i * dg x i + (y % B ^ i + B ^ i * dg y i) = x % B ^ i + y % B ^ i + B ^ i * (dg x i + dg y i) by rw [Nat.mul_add]; omega]
  rw [Nat.add_mul_div_left _ _ (pow_pos i)]
theorem dg_add (x y i : Nat) : dg (x + y) i = (carry x y i + (dg x i + dg y i)) % B := by
  have h : (x + y) / B ^ i = carry x y i + (x / B ^ i + y / B ^ i) := by
    unfold carry
    conv => lhs; rw [split x i, split y i]
    rw [show x % B ^ i + B ^ i * (x / B ^ i) + (y % B ^ i + B ^ i * (y / B ^ i)) = x % B ^ i + y % B ^ i + B ^ i * (x / B ^ i + y / B ^ i) by rw [Nat.mul_add]; omega]
    rw [Nat.add_mul_div_left _ _ (pow_pos i)]
  unfold dg
  rw [h]
  simp [Nat.add_mod]
theorem mod_succ_add (x y i : Nat) : (x + y) % B ^ (i + 1) = put ((x + y) % B ^ i) i ((carry x y i + (dg x i + dg y i)) % B) := by
  rw [put_top (mod_lt _ _), mod_succ, dg_add, Nat.mul_comm]

/-- The borrow of a difference into place i. -/
def borrow (x y i : Nat) : Nat := if x % B ^ i < y % B ^ i then 1 else 0
theorem borrow_zero (x y : Nat) : borrow x y 0 = 0 := by simp [borrow, Nat.mod_one]
theorem borrow_le (x y i : Nat) : borrow x y i ≤ 1 := by unfold borrow; split <;> omega
theorem lex_lt {p a b c d : Nat} (hb : a < p) (hd : c < p) : a + p * b < c + p * d ↔ b < d ∨ (b = d ∧ a < c) := by
  constructor
  · intro h
    rcases Nat.lt_trichotomy b d with h1 | h1 | h1
    · exact .inl h1
    · subst h1; exact .inr ⟨rfl, by omega⟩
    · exfalso
      have : p * (d + 1) ≤ p * b := Nat.mul_le_mul_left _ h1
      rw [Nat.mul_add] at this
      omega
  · rintro (h | ⟨rfl, h⟩)
    · have : p * (b + 1) ≤ p * d := Nat.mul_le_mul_left _ h
      rw [Nat.mul_add] at this
      omega
    · omega
theorem borrow_succ (x y i : Nat) : borrow x y (i + 1) = if (dg x i : Int) - dg y i - borrow x y i < 0 then 1 else 0 := by
  unfold borrow
  rw [mod_succ, mod_succ]
  have h := lex_lt (p := B ^ i) (a := x % B ^ i) (b := dg x i) (c := y % B ^ i) (d := dg y i) (mod_lt _ _) (mod_lt _ _)
  by_cases h1 : x % B ^ i < y % B ^ i
  · rw [if_pos h1]
    by_cases h2 : dg x i ≤ dg y i
    · rw [if_pos (h.2 (by omega)), if_pos (by omega)]
    · rw [if_neg (fun hh => by rcases h.1 hh with h3 | ⟨h3, _⟩ <;> omega), if_neg (by omega)]
  · rw [if_neg h1]
    by_cases h2 : dg x i < dg y i
    · rw [if_pos (h.2 (by omega)), if_pos (by omega)]
    · rw [if_neg (fun hh => by rcases h.1 hh with h3 | ⟨h3, h4⟩ <;> omega), if_neg (by omega)]
theorem dg_sub {x y : Nat} (hxy : y ≤ x) (i : Nat) : (dg (x - y) i : Int) = ((dg x i : Int) - dg y i - borrow x y i) % B := by
  have hx := split x i
  have hy := split y i
  have hp := pow_pos i
  have hmx := mod_lt x i
  have hmy := mod_lt y i
  -- what stands above place i
  have key : ((x - y) / B ^ i : Nat) + borrow x y i + y / B ^ i = x / B ^ i := by
    unfold borrow
    generalize hX : x % B ^ i = X at *
    generalize hY : y % B ^ i = Y at *
    generalize ha : x / B ^ i = a at *
    generalize hb : y / B ^ i = b at *
    generalize hP : B ^ i = P at *
    have hab : b ≤ a := by
      rcases Nat.lt_or_ge a b with h | h
      · exfalso
        have : P * (a + 1) ≤ P * b := Nat.mul_le_mul_left _ h
        rw [Nat.mul_add] at this; omega
      · exact h
    by_cases h1 : X < Y
    · rw [if_pos h1]
      have hab' : b + 1 ≤ a := by
        rcases Nat.lt_or_ge b a with h | h
        · exact h
        · have : a = b := by omega
          subst this; omega
      obtain ⟨c, rfl⟩ : ∃ c, a = b + 1 + c := ⟨a - (b + 1), by omega⟩
      have e : x - y = (X + P - Y) + P * c := by
        rw [Nat.mul_add, Nat.mul_add] at hx; omega
      rw [e, Nat.add_mul_div_left _ _ hp, Nat.div_eq_of_lt (by omega)]
      omega
    · rw [if_neg h1]
      obtain ⟨c, rfl⟩ : ∃ c, a = b + c := ⟨a - b, by omega⟩
      have e : x - y = (X - Y) + P * c := by
        rw [Nat.mul_add] at hx; omega
      rw [e, Nat.add_mul_div_left _ _ hp, Nat.div_eq_of_lt (by omega)]
      omega
  unfold dg
  have : ((x - y) / B ^ i : Nat) = ((x / B ^ i : Nat) : Int) - (y / B ^ i : Nat) - borrow x y i := by omega
  push_cast at this ⊢
  rw [this]
  rw [Int.sub_emod, Int.sub_emod (_ : Int) ((y : Int) / (B : Int) ^ i)]
  simp [Int.sub_emod]
theorem mod_succ_sub {x y : Nat} (hxy : y ≤ x) (i d : Nat) (hd : (d : Int) = ((dg x i : Int) - dg y i - borrow x y i) % B) : (x - y) % B ^ (i + 1) = put ((x - y) % B ^ i) i d := by
  have : d = dg (x - y) i := by have := dg_sub hxy i; omega
  rw [put_top (mod_lt _ _), mod_succ, this, Nat.mul_comm]

/-- One number times one limb, digit by digit, onto what is there. -/
theorem mul_step {P P0 l y c i j : Nat} (h : P + c * B ^ (i + j) = P0 + l * (y % B ^ j) * B ^ i) :
    put P (i + j) ((c + (l * dg y j + dg P (i + j))) % B) + (c + (l * dg y j + dg P (i + j))) / B * B ^ (i + (j + 1)) = P0 + l * (y % B ^ (j + 1)) * B ^ i := by
  have hp := put_eq P (i + j) ((c + (l * dg y j + dg P (i + j))) % B)
  have hm := Nat.mod_add_div (c + (l * dg y j + dg P (i + j))) B
  generalize hq : (c + (l * dg y j + dg P (i + j))) / B = q at *
  generalize hr : (c + (l * dg y j + dg P (i + j))) % B = r at *
  generalize hu : put P (i + j) r = u at *
  rw [mod_succ, ← Nat.add_assoc, pow_succ']
  have e1 : q * (B ^ (i + j) * B) = (B * q) * B ^ (i + j) := by
    rw [Nat.mul_comm (B ^ (i + j)) B, ← Nat.mul_assoc, Nat.mul_comm q B]
  have e2 : l * (y % B ^ j + B ^ j * dg y j) * B ^ i = l * (y % B ^ j) * B ^ i + l * dg y j * B ^ (i + j) := by
    rw [Nat.mul_add, Nat.add_mul, Nat.pow_add]
    congr 1
    rw [Nat.mul_comm (B ^ j), ← Nat.mul_assoc, Nat.mul_assoc _ (B ^ j) (B ^ i), Nat.mul_comm (B ^ j) (B ^ i)]
  rw [e1, e2]
  have e3 : (r + B * q) * B ^ (i + j) = (c + (l * dg y j + dg P (i + j))) * B ^ (i + j) := by rw [hm]
  rw [Nat.add_mul, Nat.add_mul, Nat.add_mul] at e3
  omega
end M
end Go.Proofs.YthnbocojjllfaaaGreatDoor
