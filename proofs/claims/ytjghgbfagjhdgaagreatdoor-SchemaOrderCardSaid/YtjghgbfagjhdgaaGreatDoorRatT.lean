/- Texts of fractions: where the bar stands, and what the two sides are. No program stands here. -/
import Derived.Lib.IndexMore
import Derived.Test.YtjghgbfagjhdgaaGreatDoorDigits
import Derived.Test.YtjghgbfagjhdgaaGreatDoorFrac
namespace Go.Proofs.YtjghgbfagjhdgaaGreatDoor
open Go

theorem index_bar : ∀ l : List UInt8, (47 ∉ l ∧ Lib.index l [47] = -1) ∨ ∃ a b, l = a ++ 47 :: b ∧ 47 ∉ a ∧ Lib.index l [47] = (a.length : Int)
  | [] => .inl ⟨by simp, rfl⟩
  | c :: l => by
    by_cases hc : c = 47
    · subst hc
      exact .inr ⟨[], l, rfl, by simp, by unfold Lib.index; simp [List.isPrefixOf]⟩
    · have hp : ([47] : List UInt8).isPrefixOf (c :: l) = false := by simp [List.isPrefixOf]; exact fun h => hc h.symm
      rcases index_bar l with ⟨h1, h2⟩ | ⟨a, b, rfl, h1, h2⟩
      · refine .inl ⟨by simp [h1]; exact fun h => hc h.symm, ?_⟩
        unfold Lib.index; rw [hp, h2]; rfl
      · refine .inr ⟨c :: a, b, rfl, by simp [h1]; exact fun h => hc h.symm, ?_⟩
        unfold Lib.index; rw [hp, h2]
        have : ((a.length : Int) == -1) = false := by rw [beq_eq_false_iff_ne]; omega
        simp [this]
theorem cut_bar (l : List UInt8) : (47 ∉ l ∧ Lib.cut l [47] = (l, [], false)) ∨ ∃ a b, l = a ++ 47 :: b ∧ 47 ∉ a ∧ Lib.cut l [47] = (a, b, true) := by
  rcases index_bar l with ⟨h1, h2⟩ | ⟨a, b, rfl, h1, h2⟩
  · exact .inl ⟨h1, by unfold Lib.cut; rw [h2]; rfl⟩
  · refine .inr ⟨a, b, rfl, h1, ?_⟩
    unfold Lib.cut
    rw [h2, if_pos (by omega), Int.toNat_natCast]
    simp
/-- The text of a fraction. -/
def rtx (x : Rat) : List UInt8 := if x.den = 1 then Lib.itoa x.num else Lib.itoa x.num ++ 47 :: Lib.itoa (x.den : Int)
/-- The text l is the fraction x, within the limits. -/
def RatIs (l : List UInt8) (x : Rat) : Prop := l = rtx x ∧ Lib.nDigits x.num.natAbs ≤ 400 ∧ Lib.nDigits x.den ≤ 400
theorem no_bar_itoa (z : Int) : 47 ∉ Lib.itoa z := by
  have hd : 47 ∉ Lib.decDigits z.natAbs := fun h => by
    have := T.digit_iff.1 (T.decDigits_digit _ _ h)
    have e : (47 : UInt8).toNat = 47 := rfl
    omega
  by_cases hz : z < 0
  · rw [T.itoa_neg hz]; simp [hd]
  · rw [T.itoa_nonneg (by omega)]; exact hd
/-- What a text can be: each case says what the cut gives. -/
theorem rat_cases (l : List UInt8) :
    (∃ a b k, Lib.cut l [47] = (a, b, k) ∧ vld a = false) ∨
    (∃ n b, Lib.cut l [47] = (Lib.itoa n, b, true) ∧ Lib.nDigits n.natAbs ≤ 400 ∧ vld b = false) ∨
    (∃ n d, Lib.cut l [47] = (Lib.itoa n, Lib.itoa d, true) ∧ Lib.nDigits n.natAbs ≤ 400 ∧ Lib.nDigits d.natAbs ≤ 400 ∧ d < 2) ∨
    (∃ n d, Lib.cut l [47] = (Lib.itoa n, Lib.itoa d, true) ∧ Lib.nDigits n.natAbs ≤ 400 ∧ Lib.nDigits d.natAbs ≤ 400 ∧ 2 ≤ d ∧ Nat.gcd n.natAbs d.natAbs ≠ 1) ∨
    (∃ x : Rat, x.den = 1 ∧ Lib.cut l [47] = (Lib.itoa x.num, [], false) ∧ RatIs l x) ∨
    (∃ x : Rat, 2 ≤ x.den ∧ Lib.cut l [47] = (Lib.itoa x.num, Lib.itoa (x.den : Int), true) ∧ RatIs l x) := by
  rcases cut_bar l with ⟨h1, h2⟩ | ⟨a, b, hl, h1, h2⟩
  · rcases Bool.eq_false_or_eq_true (vld l) with h | h
    · obtain ⟨n, rfl, hn⟩ := itoa_of_vld h
      refine .inr (.inr (.inr (.inr (.inl ⟨(n : Rat), rfl, h2, ?_, hn, ?_⟩))))
      · unfold rtx; rw [if_pos (show (n : Rat).den = 1 from rfl)]; rfl
      · show Lib.nDigits 1 ≤ 400; decide +kernel
    · exact .inl ⟨_, _, _, h2, h⟩
  · rcases Bool.eq_false_or_eq_true (vld a) with ha | ha
    · obtain ⟨n, rfl, hn⟩ := itoa_of_vld ha
      rcases Bool.eq_false_or_eq_true (vld b) with hb | hb
      · obtain ⟨d, rfl, hd⟩ := itoa_of_vld hb
        by_cases hd2 : d < 2
        · exact .inr (.inr (.inl ⟨n, d, h2, hn, hd, hd2⟩))
        · by_cases hg : Nat.gcd n.natAbs d.natAbs = 1
          · refine .inr (.inr (.inr (.inr (.inr ⟨⟨n, d.natAbs, by omega, hg⟩, by show 2 ≤ d.natAbs; omega, ?_, ?_, hn, hd⟩))))
            · rw [h2]; show _ = (Lib.itoa n, Lib.itoa ((d.natAbs : Nat) : Int), true); rw [show ((d.natAbs : Nat) : Int) = d by omega]
            · unfold rtx
              rw [if_neg (show ¬ d.natAbs = 1 by omega), hl]
              show _ = Lib.itoa n ++ 47 :: Lib.itoa ((d.natAbs : Nat) : Int)
              rw [show ((d.natAbs : Nat) : Int) = d by omega]
          · exact .inr (.inr (.inr (.inl ⟨n, d, h2, hn, hd, by omega, hg⟩)))
      · exact .inr (.inl ⟨n, b, h2, hn, hb⟩)
    · exact .inl ⟨_, _, _, h2, ha⟩
/-- The cut of a canonical text. -/
theorem cut_rtx (x : Rat) : Lib.cut (rtx x) [47] = if x.den = 1 then (Lib.itoa x.num, [], false) else (Lib.itoa x.num, Lib.itoa (x.den : Int), true) := by
  unfold rtx
  by_cases h : x.den = 1
  · rw [if_pos h, if_pos h]
    rcases cut_bar (Lib.itoa x.num) with ⟨_, h2⟩ | ⟨a, b, hl, _, _⟩
    · exact h2
    · exact absurd (by rw [hl]; simp) (no_bar_itoa x.num)
  · rw [if_neg h, if_neg h]
    rcases cut_bar (Lib.itoa x.num ++ 47 :: Lib.itoa (x.den : Int)) with ⟨h1, _⟩ | ⟨a, b, hl, ha, h2⟩
    · exact absurd (by simp) h1
    · rw [h2]
      have key : ∀ (p q r s : List UInt8), 47 ∉ p → 47 ∉ r → p ++ 47 :: q = r ++ 47 :: s → p = r ∧ q = s := by
        intro p
        induction p with
        | nil =>
          intro q r s _ hr e
          cases r with
          | nil => simp at e; exact ⟨rfl, e⟩
          | cons c r => simp at e; exact absurd (by rw [← e.1]; simp) hr
        | cons c p ih =>
          intro q r s hp hr e
          cases r with
          | nil => simp at e; exact absurd (by rw [e.1]; simp) hp
          | cons c' r =>
            simp at e hp hr
            obtain ⟨e1, e2⟩ := ih q r s hp.2 hr.2 e.2
            exact ⟨by rw [e.1, e1], e2⟩
      obtain ⟨e1, e2⟩ := key _ _ _ _ (no_bar_itoa x.num) ha hl
      rw [e1, e2]
end Go.Proofs.YtjghgbfagjhdgaaGreatDoor
