/- natural64, word; a division by one limb. -/
import Derived.Test.YthnbocojjllfaaaGreatDoorNatE
namespace Go.Proofs.YthnbocojjllfaaaGreatDoor
open Go Go.RowKit

theorem row_two (w : World) (n : Nat) (hn : n < M.B * M.B) :
    Row (w.alloc (.cells #[.int .u32 ((n : Int) % 4294967296), .int .u32 ((n : Int) / 4294967296 % 4294967296)] 160)) w.heap.size 2 n := by
  refine ⟨_, heap_alloc_new w _, by simp, by rw [show (2 : Nat) = 1 + 1 by rfl, M.pow_succ', Nat.pow_one]; exact hn, fun j hj => ?_⟩
  rw [cast_mod, cast_div, cast_mod]
  match j, hj with
  | 0, _ => simp [M.dg]
  | 1, _ => simp [M.dg]

set_option maxHeartbeats 400000 in
theorem natural64_any {w : World} {n : Nat} (hn : n < M.B * M.B) :
    Calls Tryz.prog 167 #[.int .u64 (n : Int)] w fun e w' => ∃ v, e = .returned v ∧ IsNat w' v n ∧ Below w.heap.size w w' := by
  have hn64 : n < 18446744073709551616 := by rw [M.B_eq] at hn; omega
  have hd : (n : Int) / 4294967296 % 4294967296 = (n : Int) / 4294967296 := by omega
  have R := Lib.hid (row_two w n hn)
  have HD := Lib.hid hd
  clear hn hn64 hd
  go_enter Tryz.func167, Tryz.ntmps167
  go_wp2_with (go_at_call 170; refine (trim_any R.out.limbs (by omega) (by omega)).mono ?_; rintro e w' ⟨v, rfl, hv, rfl⟩)
  go_ret
  exact ⟨_, rfl, hv, (Below.refl _ _).alloc (Nat.le_refl _) _⟩
theorem limb_lit {w : World} {A : Option Addr} {len n : Nat} (cap : Nat) (i : Nat) {z : Int} (hz : z = (i : Int)) (h : Limbs w A len n) (hl : len ≤ 4611686018427387904) (hi : i ≤ 4611686018427387904) :
    Calls Tryz.prog 169 #[.slice A len cap, .int .i64 z] w fun e w' => e = .returned (.int .u64 (M.dg n i : Int)) ∧ w = w' := by
  subst hz; exact limb_any cap i h hl hi
theorem word_eq {l n : Nat} (h : n < M.B ^ l) (hl : l ≤ 2) : M.dg n 1 * M.B + M.dg n 0 = n := by
  have h2 := Nat.lt_of_lt_of_le h (M.pow_mono hl)
  rw [show (2 : Nat) = 1 + 1 by rfl, M.pow_succ', Nat.pow_one] at h2
  unfold M.dg
  rw [Nat.pow_zero, Nat.div_one, Nat.pow_one, Nat.mod_eq_of_lt (Nat.div_lt_of_lt_mul h2), Nat.mul_comm, Nat.add_comm]
  exact Nat.mod_add_div n M.B
theorem word_any {w : World} {A : Option Addr} {l n : Nat} (c : Nat) (h : Limbs w A l n) (hl : l ≤ 2) :
    Calls Tryz.prog 168 #[.slice A l c] w fun e w' => e = .returned (.int .u64 (n : Int)) ∧ w = w' := by
  have h0 := M.dg_le n 0
  have h1 := M.dg_le n 1
  have E : bits .or .u64 ((M.dg n 1 : Int) * 4294967296) (M.dg n 0 : Int) = (n : Int) := by rw [or_plain h1 h0, word_eq h.1 hl]
  have HE := Lib.hid E
  clear E
  go_enter Tryz.func168, Tryz.ntmps168
  go_wp2_with fail
  refine (limb_lit c 1 rfl h (by omega) (by omega)).mono ?_
  rintro e w' ⟨rfl, rfl⟩
  go_wp2_with fail
  refine (limb_lit c 0 rfl h (by omega) (by omega)).mono ?_
  rintro e w' ⟨rfl, rfl⟩
  go_wp2
  go_ret
  refine ⟨?_, rfl⟩
  rw [← HE.out]
  rfl
end Go.Proofs.YthnbocojjllfaaaGreatDoor
