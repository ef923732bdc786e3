/- signed; what a wide.Int is; Plus, Minus, Times, Sign. -/
import Derived.Test.YtafknlnlejopeaaGreatDoorNatF
namespace Go.Proofs.YtafknlnlejopeaaGreatDoor
open Go Go.RowKit

/-- v is the integer z. -/
def IsInt (w : World) (v : Value) (z : Int) : Prop := ∃ s, v = .agg #[.bool (decide (z < 0)), s] ∧ IsNat w s z.natAbs
theorem IsInt.keep {w w' : World} {v : Value} {z : Int} (h : IsInt w v z) (hs : w.heap.size ≤ w'.heap.size) (hc : ∀ p : Addr, p.block < w.heap.size → w'.cell? p = w.cell? p) : IsInt w' v z := by
  obtain ⟨s, e, hn⟩ := h
  exact ⟨s, e, hn.keep hs hc⟩
theorem IsInt.below {w w' : World} {v : Value} {z : Int} {B : Nat} (h : IsInt w v z) (hb : Below B w w') (hB : w.heap.size ≤ B) : IsInt w' v z :=
  h.keep hb.size fun _ hp => hb.cell (by omega)
theorem IsNat.drawn {w w' : World} {v : Value} {n : Nat} (h : IsNat w v n) (hd : Drawn w w') : IsNat w' v n := h.below (hd.below w.heap.size) (Nat.le_refl _)
theorem IsInt.drawn {w w' : World} {v : Value} {z : Int} (h : IsInt w v z) (hd : Drawn w w') : IsInt w' v z := h.below (hd.below w.heap.size) (Nat.le_refl _)

theorem signed_any {w : World} {s : Value} {n : Nat} (neg : Bool) (h : IsNat w s n) :
    Calls Tryz.prog 63 #[.bool neg, s] w fun e w' => e = .returned (.agg #[.bool (neg && decide (0 < n)), s]) ∧ Below w.heap.size w w' := by
  obtain ⟨A, l, c, rfl, hl, hm, _, _⟩ := h
  have hz := len_zero hm hl.1
  have hd : decide (0 < n) = decide (0 < l) := by
    by_cases h0 : l = 0
    · rw [h0, hz.1 h0]
    · rw [decide_eq_true (by omega), decide_eq_true (by have := fun e => h0 (hz.2 e); omega)]
  rw [hd]
  clear hd hz hm hl
  cases neg with
  | false =>
    go_enter Tryz.func63, Tryz.ntmps63
    go_wp2
    exact bodyPost_ret (v := .agg #[.bool false, .slice A l c]) (by simp [results, Tryz.results63, go_sem]) rfl ⟨rfl, (Below.refl _ _).alloc (Nat.le_refl _) _⟩
  | true =>
    by_cases h0 : 0 < l
    · rw [decide_eq_true h0]
      go_enter Tryz.func63, Tryz.ntmps63
      go_wp2
      exact bodyPost_ret (v := .agg #[.bool true, .slice A l c]) (by simp [results, Tryz.results63, go_sem]) rfl ⟨rfl, (Below.refl _ _).alloc (Nat.le_refl _) _⟩
    · rw [decide_eq_false h0]
      obtain rfl : l = 0 := by omega
      go_enter Tryz.func63, Tryz.ntmps63
      go_wp2
      exact bodyPost_ret (v := .agg #[.bool false, .slice A 0 c]) (by simp [results, Tryz.results63, go_sem]) rfl ⟨rfl, (Below.refl _ _).alloc (Nat.le_refl _) _⟩

theorem isInt_of {w : World} {s : Value} {n : Nat} {neg : Bool} {z : Int} (h : IsNat w s n) (hz : z.natAbs = n) (hs : 0 < n → (neg = decide (z < 0))) : IsInt w (.agg #[.bool (neg && decide (0 < n)), s]) z := by
  refine ⟨s, ?_, by rw [hz]; exact h⟩
  by_cases h0 : 0 < n
  · rw [decide_eq_true h0, hs h0, Bool.and_true]
  · rw [decide_eq_false h0, Bool.and_false, decide_eq_false (by omega)]

/-- The sign of an integer. -/
def sgn (z : Int) : Int := if z < 0 then -1 else if 0 < z then 1 else 0
theorem sign_any {w : World} {v : Value} {z : Int} (h : IsInt w v z) :
    Calls Tryz.prog 80 #[v] w fun e w' => e = .returned (.int .i64 (sgn z)) ∧ Below w.heap.size w w' := by
  obtain ⟨s, rfl, A, l, c, rfl, hl, hm, _, _⟩ := h
  have hz := len_zero hm hl.1
  rcases Int.lt_trichotomy z 0 with h1 | h1 | h1
  · have h0 : 0 < l := by have : ¬ l = 0 := fun e => by have := hz.1 e; omega
                          omega
    have e1 : decide (z < 0) = true := decide_eq_true h1
    rw [e1, show sgn z = -1 by rw [sgn, if_pos h1]]
    have hb : ((l : Int) == 0) = false := beq_eq_false_iff_ne.2 (by omega)
    clear hz hm hl e1 h1
    go_enter Tryz.func80, Tryz.ntmps80
    go_wp2
    go_ret
    exact ⟨rfl, (Below.refl _ _).alloc (Nat.le_refl _) _⟩
  · have h0 : l = 0 := hz.2 (by omega)
    have e1 : decide (z < 0) = false := decide_eq_false (by omega)
    rw [e1, show sgn z = 0 by rw [sgn, if_neg (by omega), if_neg (by omega)]]
    clear hz hm hl e1 h1
    subst h0
    go_enter Tryz.func80, Tryz.ntmps80
    go_wp2
    go_ret
    exact ⟨rfl, (Below.refl _ _).alloc (Nat.le_refl _) _⟩
  · have h0 : 0 < l := by have : ¬ l = 0 := fun e => by have := hz.1 e; omega
                          omega
    have e1 : decide (z < 0) = false := decide_eq_false (by omega)
    rw [e1, show sgn z = 1 by rw [sgn, if_neg (by omega), if_pos h1]]
    have hb : ((l : Int) == 0) = false := beq_eq_false_iff_ne.2 (by omega)
    clear hz hm hl e1 h1
    go_enter Tryz.func80, Tryz.ntmps80
    go_wp2
    go_ret
    exact ⟨rfl, (Below.refl _ _).alloc (Nat.le_refl _) _⟩

/-- The limbs of numbers that fit. -/
theorem IsNat.open_ {w : World} {v : Value} {n k : Nat} (h : IsNat w v n) (hn : n < M.B ^ k) : ∃ A l c, v = .slice A l c ∧ Limbs w A l n ∧ (l = 0 ∨ M.B ^ (l - 1) ≤ n) ∧ l ≤ k ∧ l ≤ c ∧ c ≤ 9223372036854775807 := by
  obtain ⟨A, l, c, e, hl, hm, hc, hc'⟩ := h
  exact ⟨A, l, c, e, hl, hm, len_le hm hn, hc, hc'⟩
theorem plus_nat {w : World} {a b : Value} {x y k : Nat} (ha : IsNat w a x) (hb : IsNat w b y) (hx : x < M.B ^ k) (hy : y < M.B ^ k) (hk : k ≤ 30000) :
    Calls Tryz.prog 64 #[a, b] w fun e w' => ∃ v, e = .returned v ∧ IsNat w' v (x + y) ∧ Below w.heap.size w w' := by
  obtain ⟨A, l, c, rfl, hl, _, h1, _⟩ := ha.open_ hx
  obtain ⟨A', l', c', rfl, hl', _, h1', _⟩ := hb.open_ hy
  exact plus_any c c' hl hl' (by omega) (by omega)
theorem minus_nat {w : World} {a b : Value} {x y k : Nat} (ha : IsNat w a x) (hb : IsNat w b y) (hx : x < M.B ^ k) (hyx : y ≤ x) (hk : k ≤ 30000) :
    Calls Tryz.prog 66 #[a, b] w fun e w' => ∃ v, e = .returned v ∧ IsNat w' v (x - y) ∧ Below w.heap.size w w' := by
  obtain ⟨A, l, c, rfl, hl, _, h1, _⟩ := ha.open_ hx
  obtain ⟨A', l', c', rfl, hl', _, h1', _⟩ := hb.open_ (Nat.lt_of_le_of_lt hyx hx)
  exact minus_any c c' hl hl' hyx (by omega) (by omega)
theorem times_nat {w : World} {a b : Value} {x y k : Nat} (ha : IsNat w a x) (hb : IsNat w b y) (hx : x < M.B ^ k) (hy : y < M.B ^ k) (hk : k ≤ 30000) :
    Calls Tryz.prog 67 #[a, b] w fun e w' => ∃ v, e = .returned v ∧ IsNat w' v (x * y) ∧ Below w.heap.size w w' := by
  obtain ⟨A, l, c, rfl, hl, _, h1, _⟩ := ha.open_ hx
  obtain ⟨A', l', c', rfl, hl', _, h1', _⟩ := hb.open_ hy
  exact times_any c c' hl hl' (by omega) (by omega)
theorem compare_nat {w : World} {a b : Value} {x y k : Nat} (ha : IsNat w a x) (hb : IsNat w b y) (hx : x < M.B ^ k) (hy : y < M.B ^ k) (hk : k ≤ 30000) :
    Calls Tryz.prog 65 #[a, b] w fun e w' => e = .returned (.int .i64 (cmpI x y)) ∧ Drawn w w' := by
  obtain ⟨A, l, c, rfl, hl, hm, h1, _⟩ := ha.open_ hx
  obtain ⟨A', l', c', rfl, hl', hm', h1', _⟩ := hb.open_ hy
  exact compare_any c c' hl hl' hm hm' (by omega) (by omega)
end Go.Proofs.YtafknlnlejopeaaGreatDoor
