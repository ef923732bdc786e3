/- Divide of integers, put together; integer.Div. -/
import Derived.Test.YtafknlnlejopeaaGreatDoorDivIntB
namespace Go.Proofs.YtafknlnlejopeaaGreatDoor
open Go Go.RowKit

theorem ediv_cases {p q U V : Int} (hq : q ≠ 0) (hV : 0 ≤ V) (hV' : V < q.natAbs) (hE : p = q * U + V) : p / q = U ∧ p % q = V := by
  rcases Int.lt_or_gt_of_ne hq with h | h
  · have h1 : p / (-q) = -U ∧ p % (-q) = V := (Int.ediv_emod_unique (by omega)).2 ⟨by rw [hE, Int.neg_mul_neg]; omega, hV, by omega⟩
    rw [Int.ediv_neg, Int.emod_neg] at h1
    exact ⟨by omega, h1.2⟩
  · exact (Int.ediv_emod_unique h).2 ⟨by rw [hE]; omega, hV, by omega⟩
theorem sgn_mul {p q : Int} {x y : Nat} (hx : p.natAbs = x) (hy : q.natAbs = y) : p = (if p < 0 then -1 else 1) * (x : Int) ∧ q = (if q < 0 then -1 else 1) * (y : Int) := by
  constructor <;> split <;> omega
/-- The quotient's sign and size. -/
theorem div_value {p q : Int} (hq : q ≠ 0) :
    (¬ p < 0 → p / q = (if q < 0 then -((p.natAbs / q.natAbs : Nat) : Int) else ((p.natAbs / q.natAbs : Nat) : Int)) ∧ p % q = ((p.natAbs % q.natAbs : Nat) : Int)) ∧
    (p < 0 → p.natAbs % q.natAbs = 0 → p / q = (if q < 0 then ((p.natAbs / q.natAbs : Nat) : Int) else -((p.natAbs / q.natAbs : Nat) : Int)) ∧ p % q = 0) ∧
    (p < 0 → 0 < p.natAbs % q.natAbs → p / q = (if q < 0 then ((p.natAbs / q.natAbs + 1 : Nat) : Int) else -((p.natAbs / q.natAbs + 1 : Nat) : Int)) ∧ p % q = ((q.natAbs - p.natAbs % q.natAbs : Nat) : Int)) := by
  have hy : 0 < q.natAbs := by omega
  have hm := Nat.div_add_mod p.natAbs q.natAbs
  have hl := Nat.mod_lt p.natAbs hy
  generalize hU : p.natAbs / q.natAbs = U at *
  generalize hV : p.natAbs % q.natAbs = V at *
  have hmi : ((q.natAbs : Int)) * (U : Int) + (V : Int) = (p.natAbs : Int) := by rw [← Int.natCast_mul]; omega
  refine ⟨fun hp => ?_, fun hp h0 => ?_, fun hp h0 => ?_⟩
  · refine ediv_cases hq (by omega) (by omega) ?_
    split
    · rw [Int.mul_neg, ← Int.neg_mul, show -q = (q.natAbs : Int) by omega]; omega
    · rw [show q * (U : Int) = (q.natAbs : Int) * U by rw [show (q.natAbs : Int) = q by omega]]; omega
  · refine ediv_cases hq (by omega) (by omega) ?_
    split
    · rw [show q * (U : Int) = -((q.natAbs : Int) * U) by rw [← Int.neg_mul, show -(q.natAbs : Int) = q by omega]]; omega
    · rw [Int.mul_neg, show q * (U : Int) = (q.natAbs : Int) * U by rw [show (q.natAbs : Int) = q by omega]]; omega
  · refine ediv_cases hq (by omega) (by omega) ?_
    have e : (q.natAbs : Int) * ((U + 1 : Nat) : Int) = (q.natAbs : Int) * U + q.natAbs := by rw [show ((U + 1 : Nat) : Int) = (U : Int) + 1 by omega, Int.mul_add, Int.mul_one]
    split
    · rw [show q * ((U + 1 : Nat) : Int) = -((q.natAbs : Int) * ((U + 1 : Nat) : Int)) by rw [← Int.neg_mul, show -(q.natAbs : Int) = q by omega], e]; omega
    · rw [Int.mul_neg, show q * ((U + 1 : Nat) : Int) = (q.natAbs : Int) * ((U + 1 : Nat) : Int) by rw [show (q.natAbs : Int) = q by omega], e]; omega

theorem divide_int {w : World} {a b : Value} {p q : Int} {k : Nat} (ha : IsInt w a p) (hb : IsInt w b q) (hq0 : q ≠ 0) (hx : p.natAbs < M.B ^ k) (hy : q.natAbs < M.B ^ k) (hk : k ≤ 29000)
    (hD : ∀ (w : World) (a b : Value), IsNat w a p.natAbs → IsNat w b q.natAbs → Calls Tryz.prog 81 #[a, b] w (DivPost w p.natAbs q.natAbs)) :
    Calls Tryz.prog 57 #[a, b] w fun e w' => ∃ u v, e = .returned (.tuple #[u, v]) ∧ IsInt w' u (p / q) ∧ IsInt w' v (p % q) ∧ Below w.heap.size w w' := by
  obtain ⟨m, hm⟩ : ∃ m, m = decide (q < 0) := ⟨_, rfl⟩
  obtain ⟨n, hn⟩ : ∃ n, n = decide (p < 0) := ⟨_, rfl⟩
  have hb' := id hb
  obtain ⟨A', l', c', rfl, hs'⟩ := hb'.shape_b hm
  obtain ⟨A, l, c, rfl, hs⟩ := ha.shape_b hn
  have hv := div_value (p := p) hq0
  have hUn : (0 : Int) ≤ (p.natAbs : Int) / (q.natAbs : Int) := Int.ediv_nonneg (by omega) (by omega)
  have hVn : (0 : Int) ≤ (p.natAbs : Int) % (q.natAbs : Int) := Int.emod_nonneg _ (by omega)
  have hr0 : ∀ {z : Int} {x : Nat}, z = (x : Int) → (0 < x → (false = decide (z < 0))) := fun {z x} e _ => (decide_eq_false (by omega)).symm
  by_cases hp : p < 0
  · rw [decide_eq_true hp] at hn
    subst hn
    by_cases h0 : p.natAbs % q.natAbs = 0
    · obtain ⟨e1, e2⟩ := hv.2.1 hp h0
      refine (divInt_zero hs hb hs' hq0 hx hy hk hD h0).mono ?_
      rintro e w' ⟨u, v, rfl, hu, hv, hbl⟩
      refine ⟨_, _, rfl, isInt_of hu (by rw [e1]; split <;> omega) (fun h => ?_), isInt_of hv (by rw [e2, h0]; rfl) (fun h => ?_), hbl⟩
      · rw [e1, hm]
        by_cases hq : q < 0
        · rw [if_pos hq, decide_eq_true hq, decide_eq_false (by omega)]; rfl
        · rw [if_neg hq, decide_eq_false hq, decide_eq_true (by omega)]; rfl
      · omega
    · obtain ⟨e1, e2⟩ := hv.2.2 hp (by omega)
      refine (divInt_neg hs hb hs' hq0 hx hy hk hD (by omega)).mono ?_
      rintro e w' ⟨u, v, rfl, hu, hv, hbl⟩
      refine ⟨_, _, rfl, isInt_of hu (by rw [e1]; split <;> omega) (fun h => ?_), isInt_of hv (by rw [e2]; omega) (hr0 e2), hbl⟩
      rw [e1, hm]
      by_cases hq : q < 0
      · rw [if_pos hq, decide_eq_true hq, decide_eq_false (by omega)]; rfl
      · rw [if_neg hq, decide_eq_false hq, decide_eq_true (by omega)]; rfl
  · rw [decide_eq_false hp] at hn
    subst hn
    obtain ⟨e1, e2⟩ := hv.1 hp
    refine (divInt_pos hs hb hs' hq0 hx hy hk hD).mono ?_
    rintro e w' ⟨u, v, rfl, hu, hv, hbl⟩
    refine ⟨_, _, rfl, isInt_of hu (by rw [e1]; split <;> omega) (fun h => ?_), isInt_of hv (by rw [e2]; omega) (hr0 e2), hbl⟩
    rw [e1, hm]
    by_cases hq : q < 0
    · rw [if_pos hq, decide_eq_true hq, decide_eq_true (by omega)]
    · rw [if_neg hq, decide_eq_false hq, decide_eq_false (by omega)]
end Go.Proofs.YtafknlnlejopeaaGreatDoor
