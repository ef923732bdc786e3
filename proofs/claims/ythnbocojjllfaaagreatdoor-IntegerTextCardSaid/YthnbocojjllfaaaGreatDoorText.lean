/- Decimal texts: what they spell; the one text of a number. No program stands here. -/
import Derived.Lib.ItoaNum
import Derived.Lib.ParseIntB
import Derived.Lib.Strings
import Derived.Lib.TrimByte
namespace Go.Proofs.YthnbocojjllfaaaGreatDoor
open Go
namespace T

def digit (c : UInt8) : Bool := decide (48 ≤ c.toNat ∧ c.toNat ≤ 57)
/-- What digits spell, behind a. -/
def numA (a : Nat) (l : List UInt8) : Nat := l.foldl (fun a c => a * 10 + (c.toNat - 48)) a
def num (l : List UInt8) : Nat := numA 0 l
theorem numA_nil (a : Nat) : numA a [] = a := by unfold numA; rw [List.foldl_nil]
theorem numA_cons (a : Nat) (c : UInt8) (l : List UInt8) : numA a (c :: l) = numA (a * 10 + (c.toNat - 48)) l := by unfold numA; rw [List.foldl_cons]
theorem numA_append (a : Nat) (l r : List UInt8) : numA a (l ++ r) = numA (numA a l) r := by simp [numA]
theorem numA_eq (l : List UInt8) : ∀ a, numA a l = a * 10 ^ l.length + numA 0 l := by
  induction l with
  | nil => intro a; rw [numA_nil, numA_nil, List.length_nil, Nat.pow_zero, Nat.mul_one]; rfl
  | cons c l ih =>
    intro a
    rw [numA_cons, numA_cons, ih (a * 10 + (c.toNat - 48)), ih (0 * 10 + (c.toNat - 48)), List.length_cons, Nat.pow_succ]
    generalize c.toNat - 48 = d
    generalize 10 ^ l.length = p
    generalize numA 0 l = n
    rw [Nat.add_mul, Nat.add_mul, Nat.mul_assoc, Nat.mul_comm 10 p]
    omega
theorem snocRec {P : List UInt8 → Prop} (h0 : P []) (h1 : ∀ l c, P l → P (l ++ [c])) (l : List UInt8) : P l := by
  have key : ∀ r : List UInt8, P r.reverse := by
    intro r
    induction r with
    | nil => exact h0
    | cons c r ih => rw [List.reverse_cons]; exact h1 _ _ ih
  have := key l.reverse
  rwa [List.reverse_reverse] at this
theorem num_append (l r : List UInt8) : num (l ++ r) = num l * 10 ^ r.length + num r := by unfold num; rw [numA_append, numA_eq]
theorem num_snoc (l : List UInt8) (c : UInt8) : num (l ++ [c]) = num l * 10 + (c.toNat - 48) := by rw [num_append]; simp [num, numA]
theorem digit_iff {c : UInt8} : digit c = true ↔ 48 ≤ c.toNat ∧ c.toNat ≤ 57 := by simp [digit]
theorem num_lt (l : List UInt8) (h : ∀ c ∈ l, digit c = true) : num l < 10 ^ l.length := by
  revert h
  refine snocRec (P := fun l => (∀ c ∈ l, digit c = true) → num l < 10 ^ l.length) ?_ ?_ l
  · intro _; simp [num, numA]
  · intro l c ih h
    rw [num_snoc, List.length_append, List.length_singleton, Nat.pow_succ]
    have h1 := ih (fun x hx => h x (List.mem_append_left _ hx))
    have h2 := digit_iff.1 (h c (by simp))
    omega

theorem dig_byte {d : Nat} (h : d < 10) : (UInt8.ofNat (48 + d)).toNat = 48 + d := by
  rw [UInt8.toNat_ofNat']; omega
theorem num_decDigits (u : Nat) : num (Lib.decDigits u) = u := by
  induction u using Nat.strongRecOn with
  | _ u ih =>
    rw [Lib.decDigits]
    split
    · rename_i h
      simp only [num, numA, List.foldl_cons, List.foldl_nil, dig_byte h]; omega
    · rename_i h
      rw [num_snoc, ih (u / 10) (by omega), dig_byte (by omega)]; omega
theorem decDigits_digit (u : Nat) : ∀ c ∈ Lib.decDigits u, digit c = true := by
  induction u using Nat.strongRecOn with
  | _ u ih =>
    intro c hc
    rw [Lib.decDigits] at hc
    split at hc
    · rename_i h
      rw [List.mem_singleton] at hc
      rw [hc, digit_iff, dig_byte h]; omega
    · rename_i h
      rcases List.mem_append.1 hc with h1 | h1
      · exact ih (u / 10) (by omega) c h1
      · rw [List.mem_singleton] at h1
        rw [h1, digit_iff, dig_byte (by omega)]; omega
theorem decDigits_ne (u : Nat) : Lib.decDigits u ≠ [] := by
  intro h
  have h1 := Lib.decDigits_length u
  have h2 := Lib.nDigits_pos u
  rw [h] at h1; simp at h1; omega
theorem decDigits_head {u : Nat} (h : 0 < u) : ∀ c r, Lib.decDigits u = c :: r → c ≠ 48 := by
  induction u using Nat.strongRecOn with
  | _ u ih =>
    intro c r e
    rw [Lib.decDigits] at e
    split at e
    · rename_i h1
      injection e with e1 _
      rw [← e1]
      intro e2
      have := congrArg UInt8.toNat e2
      rw [dig_byte h1] at this
      simp at this; omega
    · rename_i h1
      cases hd : Lib.decDigits (u / 10) with
      | nil => exact absurd hd (decDigits_ne _)
      | cons c' r' =>
        rw [hd] at e
        injection e with e1 _
        rw [← e1]
        exact ih (u / 10) (by omega) (by omega) c' r' hd
/-- A text of digits without zeros in front is the one of its number. -/
theorem decDigits_num : ∀ (l : List UInt8), (∀ c ∈ l, digit c = true) → l ≠ [] → (∀ c r, l = c :: r → c ≠ 48) → Lib.decDigits (num l) = l := by
  intro l
  refine snocRec (P := fun l => (∀ c ∈ l, digit c = true) → l ≠ [] → (∀ c r, l = c :: r → c ≠ 48) → Lib.decDigits (num l) = l) ?_ ?_ l
  · intro _ h; exact absurd rfl h
  · intro l c ih hd _ hz
    have hc := digit_iff.1 (hd c (by simp))
    have hb : UInt8.ofNat (48 + (c.toNat - 48)) = c := by
      apply UInt8.toNat.inj
      rw [dig_byte (by omega)]; omega
    rw [num_snoc]
    by_cases hl : l = []
    · subst hl
      rw [show num ([] : List UInt8) = 0 from rfl, Nat.zero_mul, Nat.zero_add, Lib.decDigits, dif_pos (by omega), hb]; rfl
    · have hl1 : ∀ c' r, l = c' :: r → c' ≠ 48 := fun c' r e => hz c' (r ++ [c]) (by rw [e]; rfl)
      have e := ih (fun x hx => hd x (List.mem_append_left _ hx)) hl hl1
      have hpos : 0 < num l := by
        rcases Nat.eq_zero_or_pos (num l) with h0 | h0
        · exfalso
          rw [h0, Lib.decDigits, dif_pos (by omega)] at e
          exact hl1 _ _ e.symm rfl
        · exact h0
      rw [Lib.decDigits, dif_neg (by omega), show (num l * 10 + (c.toNat - 48)) / 10 = num l by omega, e, show (num l * 10 + (c.toNat - 48)) % 10 = c.toNat - 48 by omega, hb]

/-- A chunk of digits is parsed. -/
theorem parseM {M : Nat} : ∀ (l : List UInt8) (a : Nat), (∀ c ∈ l, digit c = true) → numA a l ≤ M → M < 1844674407370955162 → Lib.parseUintM M a l = .ok (numA a l) := by
  intro l
  induction l with
  | nil => intro a _ _ _; rfl
  | cons c l ih =>
    intro a hd hle hM
    have hc := digit_iff.1 (hd c (by simp))
    have h1 : a * 10 + (c.toNat - 48) ≤ numA a (c :: l) := by
      rw [numA_cons, numA_eq]
      have : 1 ≤ 10 ^ l.length := Nat.one_le_pow _ _ (by decide)
      have := Nat.mul_le_mul_left (a * 10 + (c.toNat - 48)) this
      omega
    rw [Lib.parseUintM, if_pos hc, if_neg (by omega), if_neg (by omega), numA_cons]
    exact ih _ (fun x hx => hd x (List.mem_cons_of_mem _ hx)) (by rw [← numA_cons]; exact hle) hM
theorem parse32 {l : List UInt8} (hd : ∀ c ∈ l, digit c = true) (hne : l ≠ []) (hl : l.length ≤ 9) : Lib.parseUintB 32 l = .ok (num l) := by
  unfold Lib.parseUintB
  rw [if_neg hne]
  have h1 := num_lt l hd
  have h2 : 10 ^ l.length ≤ 10 ^ 9 := Nat.pow_le_pow_right (by decide) hl
  exact parseM l 0 hd (show num l ≤ _ by simp; omega) (by simp)

/-- The sign in front of a number's text, and what is behind it. -/
theorem itoa_prefix (z : Int) : Lib.hasPrefix (Lib.itoa z) [45] = decide (z < 0) := by
  unfold Lib.itoa Lib.hasPrefix
  by_cases h : z < 0
  · rw [if_pos h, decide_eq_true h]; simp [List.isPrefixOf]
  · rw [if_neg h, decide_eq_false h]
    cases hd : Lib.decDigits z.toNat with
    | nil => rfl
    | cons c r =>
      have := digit_iff.1 (decDigits_digit z.toNat c (by rw [hd]; simp))
      have hne : ¬ (45 : UInt8) = c := by rintro rfl; simp at this
      simp [List.isPrefixOf, hne]
theorem itoa_trim (z : Int) : Lib.trimPrefix (Lib.itoa z) [45] = Lib.decDigits z.natAbs := by
  unfold Lib.trimPrefix
  rw [itoa_prefix]
  unfold Lib.itoa
  by_cases h : z < 0
  · rw [decide_eq_true h, if_pos rfl, if_pos h]; rfl
  · rw [decide_eq_false h, if_neg (by simp), if_neg h]
    congr 1; omega
theorem itoa_nonneg {z : Int} (h : ¬ z < 0) : Lib.itoa z = Lib.decDigits z.natAbs := by
  unfold Lib.itoa; rw [if_neg h]; congr 1; omega
theorem itoa_neg {z : Int} (h : z < 0) : Lib.itoa z = 45 :: Lib.decDigits z.natAbs := by
  unfold Lib.itoa; rw [if_pos h]
theorem itoa_value (z : Int) : (if decide (z < 0) = true then -(num (Lib.decDigits z.natAbs) : Int) else num (Lib.decDigits z.natAbs)) = z := by
  rw [num_decDigits]
  by_cases h : z < 0
  · rw [decide_eq_true h, if_pos rfl]; omega
  · rw [decide_eq_false h, if_neg (by simp)]; omega
end T
end Go.Proofs.YthnbocojjllfaaaGreatDoor
