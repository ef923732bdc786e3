/- The digits of a number, the lowest first, as they are written; turned round and without zeros in front. -/
import Derived.Test.YthnbocojjllfaaaGreatDoorText
namespace Go.Proofs.YthnbocojjllfaaaGreatDoor
open Go
namespace T

def low (n t : Nat) : UInt8 := UInt8.ofNat (48 + n / 10 ^ t % 10)
def lows (n k : Nat) : List UInt8 := (List.range k).map (low n)
theorem lows_length (n k : Nat) : (lows n k).length = k := by simp [lows]
theorem lows_succ (n k : Nat) : lows n (k + 1) = lows n k ++ [low n k] := by simp [lows, List.range_succ]
theorem low_nat (n t : Nat) : (low n t).toNat = 48 + n / 10 ^ t % 10 := dig_byte (by omega)
theorem lows_digit (n k : Nat) : ∀ c ∈ lows n k, digit c = true := by
  intro c hc
  obtain ⟨t, _, rfl⟩ := List.mem_map.1 hc
  rw [digit_iff, low_nat]; omega
theorem num_cons (c : UInt8) (l : List UInt8) : num (c :: l) = (c.toNat - 48) * 10 ^ l.length + num l := by
  have h := num_append [c] l
  rw [List.singleton_append] at h
  rw [h]
  congr 2
  simp [num, numA]
theorem num_lows (n k : Nat) : num (lows n k).reverse = n % 10 ^ k := by
  induction k with
  | zero => simp [lows, num, numA, Nat.mod_one]
  | succ k ih =>
    rw [lows_succ, List.reverse_append, List.reverse_singleton, List.singleton_append, num_cons, ih, List.length_reverse, lows_length, low_nat, Nat.mod_pow_succ, show 48 + n / 10 ^ k % 10 - 48 = n / 10 ^ k % 10 by omega, Nat.mul_comm]
    omega
theorem num_drop (l : List UInt8) : num (l.dropWhile (· == 48)) = num l := by
  induction l with
  | nil => rfl
  | cons c l ih =>
    by_cases h : c = 48
    · subst h
      rw [List.dropWhile_cons_of_pos (by simp), ih, num_cons]
      simp
    · rw [List.dropWhile_cons_of_neg (by simpa using h)]
theorem drop_head (l : List UInt8) : ∀ c r, l.dropWhile (· == 48) = c :: r → c ≠ 48 := by
  intro c r h e
  have := List.head_dropWhile_not (p := fun c : UInt8 => c == 48) (l := l) (by rw [h]; simp)
  simp [h, e] at this
/-- What is written. -/
theorem written {n k : Nat} (h0 : 0 < n) (hk : n < 10 ^ k) : ((lows n k).reverse).dropWhile (· == 48) = Lib.decDigits n := by
  have e : num (((lows n k).reverse).dropWhile (· == 48)) = n := by rw [num_drop, num_lows, Nat.mod_eq_of_lt hk]
  have h := decDigits_num (((lows n k).reverse).dropWhile (· == 48)) (fun c hc => lows_digit n k c (by
    have := (List.dropWhile_sublist (· == 48)).subset hc
    exact List.mem_reverse.1 this)) (by intro h; rw [h] at e; simp [num, numA] at e; omega) (drop_head _)
  rw [e] at h
  exact h.symm
theorem low_chunk (n j t : Nat) (ht : t < 9) : (n / 10 ^ (9 * j)) % 1000000000 / 10 ^ t % 10 = n / 10 ^ (9 * j + t) % 10 := by
  rw [Nat.pow_add, ← Nat.div_div_eq_div_mul]
  generalize n / 10 ^ (9 * j) = m
  obtain ⟨e, he⟩ : ∃ e, 9 = t + 1 + e := ⟨9 - (t + 1), by omega⟩
  rw [show (1000000000 : Nat) = 10 ^ 9 by rfl, he, show (10 : Nat) ^ (t + 1 + e) = 10 ^ t * (10 * 10 ^ e) by rw [Nat.pow_add, Nat.pow_succ, Nat.mul_assoc], Nat.mod_mul_right_div_self, Nat.mod_mul_right_mod]
theorem rest_chunk (n j : Nat) : n / 10 ^ (9 * j) / 1000000000 = n / 10 ^ (9 * (j + 1)) := by
  rw [Nat.div_div_eq_div_mul, show 9 * (j + 1) = 9 * j + 9 by omega, Nat.pow_add]
end T
end Go.Proofs.YthnbocojjllfaaaGreatDoor
