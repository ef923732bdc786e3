/- combine, Add, Sub, Mul. -/
import Derived.Test.YtjghgbfagjhdgaaGreatDoorDigits
import Derived.Test.YtjghgbfagjhdgaaGreatDoorIntE
namespace Go.Proofs.YtjghgbfagjhdgaaGreatDoor
open Go Go.RowKit

theorem lt_ten (n : Nat) (h : Lib.nDigits n ≤ 400) : n < M.B ^ 42 := by
  have h1 := Lib.lt_pow_nDigits n
  have h2 := Nat.pow_le_pow_right (n := 10) (by decide) h
  have h3 : 10 ^ 400 ≤ M.B ^ 42 := by rw [M.B_eq]; decide +kernel
  omega

/-- What an operation of package wide does with two numbers of at most 400 digits. -/
def OpOk (f : Nat) (op : Int → Int → Int) : Prop :=
  ∀ (w : World) (a b : Value) (p q : Int), IsInt w a p → IsInt w b q → p.natAbs < M.B ^ 42 → q.natAbs < M.B ^ 42 →
    Calls Tryz.prog f #[a, b] w fun e w' => ∃ v, e = .returned v ∧ IsInt w' v (op p q) ∧ Below w.heap.size w w'

theorem cf_plus (args : Array Value) (w : World) : (callFunc 169 args).run Tryz.prog w = .ok (.enter 169 args) w := by kernel_rfl
theorem cf_minus (args : Array Value) (w : World) : (callFunc 168 args).run Tryz.prog w = .ok (.enter 168 args) w := by kernel_rfl
theorem cf_times (args : Array Value) (w : World) : (callFunc 49 args).run Tryz.prog w = .ok (.enter 49 args) w := by kernel_rfl
theorem op_plus : OpOk 169 (· + ·) := fun _ _ _ _ _ ha hb hp hq => plus_int ha hb hp hq (by omega)
theorem op_minus : OpOk 168 (· - ·) := fun _ _ _ _ _ ha hb hp hq => minus_int ha hb hp hq (by omega)
theorem op_times : OpOk 49 (· * ·) := fun _ _ _ _ _ ha hb hp hq => times_int ha hb hp hq (by omega)

theorem sum_big {p q : Int} (hp : Lib.nDigits p.natAbs ≤ 400) (hq : Lib.nDigits q.natAbs ≤ 400) : (p + q).natAbs < M.B ^ 100 ∧ (p - q).natAbs < M.B ^ 100 ∧ (p * q).natAbs < M.B ^ 100 := by
  have h1 := lt_ten _ hp
  have h2 := lt_ten _ hq
  have h3 : M.B ^ 42 + M.B ^ 42 ≤ M.B ^ 100 := by
    have e1 : M.B ^ 100 = M.B ^ 42 * M.B ^ 58 := by rw [← Nat.pow_add]
    have e2 := M.pow_mono (show 1 ≤ 58 by omega)
    rw [Nat.pow_one] at e2
    have e3 := Nat.mul_le_mul_left (M.B ^ 42) (Nat.le_trans M.B_two e2)
    omega
  refine ⟨by omega, by omega, ?_⟩
  rw [Int.natAbs_mul]
  have e4 := Nat.mul_lt_mul'' h1 h2
  rw [← Nat.pow_add] at e4
  exact Nat.lt_of_lt_of_le e4 (M.pow_mono (by omega))

end Go.Proofs.YtjghgbfagjhdgaaGreatDoor
