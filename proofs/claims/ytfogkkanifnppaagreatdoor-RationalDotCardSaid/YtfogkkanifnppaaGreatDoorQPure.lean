/- Fractions: signs, floors, parts. No program stands here but for the words cmpI and sgn. -/
import Derived.Test.YtfogkkanifnppaaGreatDoorQLong
namespace Go.Proofs.YtfogkkanifnppaaGreatDoor
open Go Go.RowKit

section
variable {w w1 w2 : World} {g : Nat} {s t : ByteArray} {x y : Rat} {k : Nat}
theorem QN.rd {t : ByteArray} {x : Rat} {k : Nat} (h : QN t x k) : Rd t (some x) := h.1
theorem QN.eq {s t : ByteArray} {x y : Rat} {k m : Nat} (h : QN s x k) (h' : QN t y m) (e : x = y) : s = t := by
  subst e
  have e2 : s.data.toList = t.data.toList := h.1.1.trans h'.1.1.symm
  apply ByteArray.ext
  exact Array.toList_inj.1 e2
theorem qn_rtx {x : Rat} {k : Nat} (h : F.Lt (10 ^ k) x) (hk : 1 ≤ k) (hk4 : k ≤ 400) : QN ⟨(rtx x).toArray⟩ x k ∧ qgive x = .tuple #[.string ⟨(rtx x).toArray⟩, .int .i64 0] :=
  ⟨⟨h.text' hk hk4, h⟩, if_pos (h.digits hk hk4)⟩
theorem ten_sq (k : Nat) : 10 ^ k * 10 ^ k = 10 ^ (2 * k) := by rw [← Nat.pow_add]; congr 1; omega
theorem ten_two (k : Nat) : 2 * (10 ^ k * 10 ^ k) ≤ 10 ^ (2 * k + 1) := by
  rw [ten_sq, Nat.pow_succ]
  have := Nat.mul_le_mul_left (10 ^ (2 * k)) (show 2 ≤ 10 by decide)
  omega
theorem QRun.add (h : QRun w g w1) (hs : QN s x k) (ht : QN t y k) (hk : 2 * k + 1 ≤ 400) :
    Calls Tryz.prog 14 #[.string s, .string t] w1 fun e w' => ∃ u, e = .returned (.tuple #[.string u, .int .i64 0]) ∧ Hid (QN u (x + y) (2 * k + 1) ∧ QRun w g w') := by
  have hr := qn_rtx ((F.plus_lt hs.2 ht.2).mono (ten_two k)) (by omega) hk
  refine (qadd_any s t h.env hs.short ht.short hs.rd ht.rd).mono ?_
  rintro e w' ⟨he, hb⟩
  exact ⟨_, he.trans (congrArg Ending.returned hr.2), Lib.hid ⟨hr.1, h.op hb⟩⟩
end

end Go.Proofs.YtfogkkanifnppaaGreatDoor
