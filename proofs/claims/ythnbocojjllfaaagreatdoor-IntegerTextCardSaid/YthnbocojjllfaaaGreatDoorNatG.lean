/- Natural numbers that fit: plus, minus, times, compare by their values; the low 64 bits. -/
import Derived.Test.YthnbocojjllfaaaGreatDoorNatF
namespace Go.Proofs.YthnbocojjllfaaaGreatDoor
open Go Go.RowKit

theorem IsNat.drawn {w w' : World} {v : Value} {n : Nat} (h : IsNat w v n) (hd : Drawn w w') : IsNat w' v n := h.below (hd.below w.heap.size) (Nat.le_refl _)
theorem IsNat.shape {w : World} {v : Value} {n : Nat} (h : IsNat w v n) : ∃ A l c, v = .slice A l c := by
  obtain ⟨A, l, c, e, _⟩ := h
  exact ⟨A, l, c, e⟩
/-- The limbs of numbers that fit. -/
theorem IsNat.open_ {w : World} {v : Value} {n k : Nat} (h : IsNat w v n) (hn : n < M.B ^ k) : ∃ A l c, v = .slice A l c ∧ Limbs w A l n ∧ (l = 0 ∨ M.B ^ (l - 1) ≤ n) ∧ l ≤ k ∧ l ≤ c ∧ c ≤ 9223372036854775807 := by
  obtain ⟨A, l, c, e, hl, hm, hc, hc'⟩ := h
  exact ⟨A, l, c, e, hl, hm, len_le hm hn, hc, hc'⟩
theorem plus_nat {w : World} {a b : Value} {x y k : Nat} (ha : IsNat w a x) (hb : IsNat w b y) (hx : x < M.B ^ k) (hy : y < M.B ^ k) (hk : k ≤ 30000) :
    Calls Tryz.prog 139 #[a, b] w fun e w' => ∃ v, e = .returned v ∧ IsNat w' v (x + y) ∧ Below w.heap.size w w' := by
  obtain ⟨A, l, c, rfl, hl, _, h1, _⟩ := ha.open_ hx
  obtain ⟨A', l', c', rfl, hl', _, h1', _⟩ := hb.open_ hy
  exact plus_any c c' hl hl' (by omega) (by omega)
theorem minus_nat {w : World} {a b : Value} {x y k : Nat} (ha : IsNat w a x) (hb : IsNat w b y) (hx : x < M.B ^ k) (hyx : y ≤ x) (hk : k ≤ 30000) :
    Calls Tryz.prog 141 #[a, b] w fun e w' => ∃ v, e = .returned v ∧ IsNat w' v (x - y) ∧ Below w.heap.size w w' := by
  obtain ⟨A, l, c, rfl, hl, _, h1, _⟩ := ha.open_ hx
  obtain ⟨A', l', c', rfl, hl', _, h1', _⟩ := hb.open_ (Nat.lt_of_le_of_lt hyx hx)
  exact minus_any c c' hl hl' hyx (by omega) (by omega)
theorem times_nat {w : World} {a b : Value} {x y k : Nat} (ha : IsNat w a x) (hb : IsNat w b y) (hx : x < M.B ^ k) (hy : y < M.B ^ k) (hk : k ≤ 30000) :
    Calls Tryz.prog 145 #[a, b] w fun e w' => ∃ v, e = .returned v ∧ IsNat w' v (x * y) ∧ Below w.heap.size w w' := by
  obtain ⟨A, l, c, rfl, hl, _, h1, _⟩ := ha.open_ hx
  obtain ⟨A', l', c', rfl, hl', _, h1', _⟩ := hb.open_ hy
  exact times_any c c' hl hl' (by omega) (by omega)
theorem compare_nat {w : World} {a b : Value} {x y k : Nat} (ha : IsNat w a x) (hb : IsNat w b y) (hx : x < M.B ^ k) (hy : y < M.B ^ k) (hk : k ≤ 30000) :
    Calls Tryz.prog 140 #[a, b] w fun e w' => e = .returned (.int .i64 (cmpI x y)) ∧ Drawn w w' := by
  obtain ⟨A, l, c, rfl, hl, hm, h1, _⟩ := ha.open_ hx
  obtain ⟨A', l', c', rfl, hl', hm', h1', _⟩ := hb.open_ hy
  exact compare_any c c' hl hl' hm hm' (by omega) (by omega)
theorem cmp_lt {x y : Nat} (h : x < y) : cmpI (x : Int) y < 0 := by unfold cmpI; rw [if_pos (by omega)]; omega
theorem cmp_ge {x y : Nat} (h : y ≤ x) : ¬ cmpI (x : Int) y < 0 := by unfold cmpI; rw [if_neg (by omega)]; split <;> omega

/-- The low 64 bits. -/
theorem word_low {w : World} {A : Option Addr} {l n : Nat} (c : Nat) (h : Limbs w A l n) (hl : l ≤ 60000) :
    Calls Tryz.prog 168 #[.slice A l c] w fun e w' => e = .returned (.int .u64 ((M.dg n 1 * M.B + M.dg n 0 : Nat) : Int)) ∧ w = w' := by
  have h0 := M.dg_le n 0
  have h1 := M.dg_le n 1
  have E := or_plain h1 h0
  have HE := Lib.hid E
  clear E
  go_enter Tryz.func168, Tryz.ntmps168
  go_wp2_with fail
  refine (limb_lit c 1 rfl h (by omega) (by omega)).mono ?_
  rintro e w' ⟨rfl, rfl⟩
  go_wp2_with fail
  refine (limb_lit c 0 rfl h (by omega) (by omega)).mono ?_
  rintro e w' ⟨rfl, rfl⟩
  go_wp2
  go_ret
  refine ⟨?_, rfl⟩
  rw [← HE.out]
  rfl
/-- The sign of an integer. -/
def sgn (z : Int) : Int := if z < 0 then -1 else if 0 < z then 1 else 0
end Go.Proofs.YthnbocojjllfaaaGreatDoor
