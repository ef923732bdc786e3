/- Atoi reads what Itoa writes. -/
import Derived.Test.YthnbocojjllfaaaGreatDoorText
import Derived.Lib.AtoiAll
namespace Go.Proofs.YthnbocojjllfaaaGreatDoor
open Go

theorem parse_num : ∀ (l : List UInt8) (acc : Nat), (∀ c ∈ l, T.digit c = true) → T.numA acc l ≤ 9223372036854775808 → Lib.parseUint10 acc l = .ok (T.numA acc l)
  | [], acc, _, _ => by simp [Lib.parseUint10, T.numA]
  | c :: l, acc, h, hb => by
    have hd := T.digit_iff.1 (h c (List.mem_cons_self ..))
    have ih := parse_num l (acc * 10 + (c.toNat - 48)) (fun x hx => h x (List.mem_cons_of_mem _ hx))
    rw [T.numA_cons] at hb ⊢
    have hm : acc * 10 + (c.toNat - 48) ≤ T.numA (acc * 10 + (c.toNat - 48)) l := by
      rw [T.numA_eq l (acc * 10 + (c.toNat - 48))]
      have := Nat.le_mul_of_pos_right (acc * 10 + (c.toNat - 48)) (Nat.pow_pos (n := l.length) (show 0 < 10 by decide))
      omega
    rw [Lib.parseUint10, if_pos hd, if_neg (by omega), if_neg (by omega)]
    exact ih hb
theorem mag_dec {u : Nat} (h : u ≤ 9223372036854775808) : Lib.parseMag (Lib.decDigits u) = .ok u := by
  have e := T.num_decDigits u
  unfold T.num at e
  have hp := parse_num (Lib.decDigits u) 0 (T.decDigits_digit u) (by rw [e]; exact h)
  rw [e] at hp
  unfold Lib.parseMag
  rw [if_neg (T.decDigits_ne u)]
  exact hp
theorem atoi_itoa {n : Int} (h0 : -9223372036854775808 ≤ n) (h1 : n ≤ 9223372036854775807) : Lib.atoiAll (Lib.itoa n) = .ok n := by
  by_cases hn : n < 0
  · rw [T.itoa_neg hn]
    unfold Lib.atoiAll
    have e : (45 : UInt8).toNat = 45 := rfl
    simp only [e]
    rw [if_pos (Or.inr trivial), mag_dec (by omega)]
    simp only
    rw [if_neg (by simp), if_neg (by omega)]
    simp
    try omega
  · rw [T.itoa_nonneg hn]
    have hm := mag_dec (show n.natAbs ≤ 9223372036854775808 by omega)
    have hdg := T.decDigits_digit n.natAbs
    cases hc : Lib.decDigits n.natAbs with
    | nil => exact absurd hc (T.decDigits_ne _)
    | cons c r =>
      rw [hc] at hm hdg
      have h3 := T.digit_iff.1 (hdg c (List.mem_cons_self ..))
      unfold Lib.atoiAll
      simp only
      rw [if_neg (by omega), hm]
      simp only
      rw [if_neg (by omega), if_neg (by omega), if_neg (by omega)]
      congr 1
      omega
end Go.Proofs.YthnbocojjllfaaaGreatDoor
