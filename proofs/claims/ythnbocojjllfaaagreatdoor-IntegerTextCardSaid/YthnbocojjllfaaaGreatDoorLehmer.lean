/- Lehmer's steps, plain arithmetic: Collins's condition makes all quotients right; what is applied is unimodular. No program stands here. -/
import Derived.Test.YthnbocojjllfaaaGreatDoorMath
namespace Go.Proofs.YthnbocojjllfaaaGreatDoor
namespace M

/-- A row of the steps, applied: with the sign of its index. -/
def rho (odd : Bool) (p q : Nat) (x y : Int) : Int := if odd then q * y - p * x else p * x - q * y

/-- What holds before each step of Euclid with the words ah, bh in the place of x, y. -/
structure Leh (x y : Int) (ah bh a b a0 b0 a1 b1 na nb : Nat) (ev : Bool) : Prop where
  hA : a * nb + b * b1 = ah
  hB : a * na + b * a1 = bh
  det : (a1 : Int) * nb - na * b1 = if ev then -1 else 1
  ba : b ≤ a
  le : na ≤ nb
  le0 : b1 ≤ nb
  le1 : a1 ≤ nb
  one : 1 ≤ nb
  now : (b1 = 0 ∧ a1 = 1 ∧ na = 0 ∧ nb = 1 ∧ ev = false ∧ a0 = 0 ∧ b0 = 0 ∧ a = ah ∧ b = bh) ∨
    (a1 ≤ b1 ∧ 1 ≤ b1 ∧ 0 ≤ rho ev a1 b1 x y ∧ rho ev a1 b1 x y < rho (!ev) a0 b0 x y ∧ (b0 = 0 ∨ rho (!ev) a0 b0 x y ≤ y) ∧ rho ev a1 b1 x y ≤ y ∧
      (a0 : Int) * b1 - a1 * b0 = (if ev then 1 else -1) ∧ b1 * b1 ≤ ah ∧ a0 ≤ b1 ∧ b0 ≤ b1)

theorem Leh.start (x y : Int) {ah bh : Nat} (h : bh ≤ ah) : Leh x y ah bh ah bh 0 0 1 0 0 1 false :=
  ⟨by omega, by omega, by decide, h, by omega, by omega, by omega, by omega, .inl ⟨rfl, rfl, rfl, rfl, rfl, rfl, rfl, rfl, rfl⟩⟩

theorem row_even {X Y D xl yl a b a1 b1 na nb ah bh : Int} (hX : X = ah * D + xl) (hY : Y = bh * D + yl) (hA : a * nb + b * b1 = ah) (hB : a * na + b * a1 = bh) (det : a1 * nb - na * b1 = 1) :
    a1 * X - b1 * Y = a * D + a1 * xl - b1 * yl ∧ nb * Y - na * X = b * D + nb * yl - na * xl := by
  constructor <;> grind
theorem row_odd {X Y D xl yl a b a1 b1 na nb ah bh : Int} (hX : X = ah * D + xl) (hY : Y = bh * D + yl) (hA : a * nb + b * b1 = ah) (hB : a * na + b * a1 = bh) (det : a1 * nb - na * b1 = -1) :
    b1 * Y - a1 * X = a * D + b1 * yl - a1 * xl ∧ na * X - nb * Y = b * D + na * xl - nb * yl := by
  constructor <;> grind
/-- A small error does not reach: the bound is strict. -/
theorem over {r e f D xl yl : Int} (hr : e ≤ r) (hf : 0 ≤ f) (hx : 0 ≤ xl) (hxD : xl < D) (hy : 0 ≤ yl) (h1 : 1 ≤ r) : 0 < r * D + f * yl - e * xl := by
  have h2 : 0 ≤ f * yl := Int.mul_nonneg hf hy
  have h3 : e * xl ≤ r * xl := Int.mul_le_mul_of_nonneg_right hr hx
  have h4 : r * xl < r * D := Int.mul_lt_mul_of_pos_left hxD (by omega)
  omega

/-- The step. -/
theorem Leh.step {X Y D xl yl : Int} {ah bh a b a0 b0 a1 b1 na nb : Nat} {ev : Bool} (h : Leh X Y ah bh a b a0 b0 a1 b1 na nb ev)
    (hX : X = (ah : Int) * D + xl) (hY : Y = (bh : Int) * D + yl) (hx : 0 ≤ xl) (hxD : xl < D) (hy : 0 ≤ yl) (hyD : yl < D)
    (c1 : nb ≤ b) (c2 : b1 + nb ≤ a - b) : Leh X Y ah bh b (a % b) a1 b1 na nb (a1 + a / b * na) (b1 + a / b * nb) (!ev) := by
  have h1 := h.one
  have hb0 : 0 < b := by omega
  have hq : 1 ≤ a / b := (Nat.le_div_iff_mul_le hb0).2 (by have := h.ba; omega)
  have hm := Nat.div_add_mod a b
  have hlt := Nat.mod_lt a hb0
  have hle := h.le
  have hle0 := h.le0
  have hle1 := h.le1
  have hba := h.ba
  have hA := h.hA
  have hB := h.hB
  have hdet := h.det
  generalize hqq : a / b = q at *
  generalize hrr : a % b = r at *
  have hqn : nb ≤ q * nb := Nat.le_mul_of_pos_left nb hq
  have hqa : na ≤ q * na := Nat.le_mul_of_pos_left na hq
  have hqq : q * na ≤ q * nb := Nat.mul_le_mul_left q hle
  have hsq : nb * nb ≤ ah := by
    have e1 : nb * nb ≤ a * nb := Nat.mul_le_mul_right nb (by omega)
    have := Nat.zero_le (b * b1)
    omega
  have hAi : (a : Int) * nb + b * b1 = ah := by rw [← hA]; push_cast; rfl
  have hBi : (a : Int) * na + b * a1 = bh := by rw [← hB]; push_cast; rfl
  refine ⟨by grind, by grind, ?_, by omega, ?_, by omega, by omega, by omega, .inr ?_⟩
  · push_cast
    cases ev with
    | true => simp at hdet ⊢; grind
    | false => simp at hdet ⊢; grind
  · rcases h.now with ⟨e1, e2, e3, e4, _⟩ | ⟨e1, _⟩
    · subst e1 e2 e3 e4; simp; omega
    · omega
  · cases ev with
    | false =>
      simp at hdet
      obtain ⟨r1, r2⟩ := row_even hX hY hAi hBi hdet
      have p1 : 0 < (nb : Int) * Y - na * X := by
        rw [r2]; exact over (by omega) (by omega) hx hxD hy (by omega)
      have p2 : 0 < ((a1 : Int) * X - b1 * Y) - (nb * Y - na * X) := by
        have e : ((a1 : Int) * X - b1 * Y) - (nb * Y - na * X) = ((a : Int) - b) * D + (a1 + na) * xl - (b1 + nb) * yl := by rw [r1, r2]; grind
        rw [e]; exact over (by omega) (by omega) hy hyD hx (by omega)
      refine ⟨hle, h1, ?_, ?_, ?_, ?_, ?_, hsq, hle1, hle0⟩
      · simp only [rho, Bool.not_false, if_true]; omega
      · simp only [rho, Bool.not_false, Bool.not_true, if_true]; simp; omega
      · rcases h.now with ⟨e1, _⟩ | ⟨_, _, _, _, _, e2, _⟩
        · exact .inl e1
        · simp only [rho] at e2 ⊢; simp at e2 ⊢; exact .inr e2
      · rcases h.now with ⟨e1, e2, e3, e4, _⟩ | ⟨_, _, _, _, _, e2, _⟩
        · subst e1 e2 e3 e4; simp [rho]
        · simp only [rho] at e2 ⊢; simp at e2 ⊢; omega
      · simp; omega
    | true =>
      simp at hdet
      obtain ⟨r1, r2⟩ := row_odd hX hY hAi hBi hdet
      have hn : a1 ≤ b1 := by
        rcases h.now with ⟨_, _, _, _, e, _⟩ | ⟨e, _⟩
        · cases e
        · exact e
      have p1 : 0 < (na : Int) * X - nb * Y := by
        rw [r2]; exact over (by omega) (by omega) hy hyD hx (by omega)
      have p2 : 0 < ((b1 : Int) * Y - a1 * X) - (na * X - nb * Y) := by
        have e : ((b1 : Int) * Y - a1 * X) - (na * X - nb * Y) = ((a : Int) - b) * D + (b1 + nb) * yl - (a1 + na) * xl := by rw [r1, r2]; grind
        rw [e]; exact over (by omega) (by omega) hx hxD hy (by omega)
      refine ⟨hle, h1, ?_, ?_, ?_, ?_, ?_, hsq, hle1, hle0⟩
      · simp only [rho, Bool.not_true]; simp; omega
      · simp only [rho, Bool.not_false, Bool.not_true, if_true]; simp; omega
      · rcases h.now with ⟨e1, _⟩ | ⟨_, _, _, _, _, e2, _⟩
        · exact .inl e1
        · simp only [rho] at e2 ⊢; simp at e2 ⊢; exact .inr e2
      · rcases h.now with ⟨_, _, _, _, e, _⟩ | ⟨_, _, _, _, _, e2, _⟩
        · cases e
        · simp only [rho] at e2 ⊢; simp at e2 ⊢; omega
      · simp; omega

/-- Nothing overflows in a step. -/
theorem Leh.fits {X Y : Int} {ah bh a b a0 b0 a1 b1 na nb : Nat} {ev : Bool} (h : Leh X Y ah bh a b a0 b0 a1 b1 na nb ev) (c1 : nb ≤ b) :
    b1 + nb ≤ ah ∧ b1 + a / b * nb ≤ ah ∧ a1 + a / b * na ≤ b1 + a / b * nb ∧ a ≤ ah ∧ b ≤ ah := by
  have h1 := h.one
  have hb0 : 0 < b := by omega
  have hba := h.ba
  have hA := h.hA
  have hq : 1 ≤ a / b := (Nat.le_div_iff_mul_le hb0).2 (by omega)
  have hm := Nat.div_add_mod a b
  have hle := h.le
  have hqq : a / b * na ≤ a / b * nb := Nat.mul_le_mul_left _ hle
  have e1 : nb ≤ a * nb := Nat.le_mul_of_pos_left nb (by omega)
  have e2 : b1 ≤ b * b1 := Nat.le_mul_of_pos_left b1 hb0
  have e3 : a ≤ a * nb := Nat.le_mul_of_pos_right a (by omega)
  have hnow := h.now
  generalize a / b = q at *
  generalize a % b = r at *
  refine ⟨by omega, ?_, ?_, by omega, by omega⟩
  · have e4 : ah = b * (b1 + q * nb) + r * nb := by rw [← hA, ← hm]; grind
    have e5 : b1 + q * nb ≤ b * (b1 + q * nb) := Nat.le_mul_of_pos_left _ hb0
    omega
  · rcases hnow with ⟨f1, f2, f3, f4, _⟩ | ⟨f1, _⟩
    · rw [f1, f2, f3, f4]; simp; omega
    · omega

/-- What the steps give: the new numbers u and v. -/
structure Give (x y : Nat) (a0 b0 a1 b1 : Nat) (ev : Bool) (u v : Nat) : Prop where
  hu : (u : Int) = rho (!ev) a0 b0 x y
  hv : (v : Int) = rho ev a1 b1 x y
  lt : v < u
  le : u ≤ y
  gcd : Nat.gcd u v = Nat.gcd x y
  a0 : a0 < B
  b0 : b0 < B
  a1 : a1 < B
  b1 : b1 < B
theorem gcd_rows {x y u v a0 b0 a1 b1 : Nat} (hx : x = b1 * u + b0 * v) (hy : y = a1 * u + a0 * v) (hu : (u : Int) = a0 * x - b0 * y ∨ (u : Int) = b0 * y - a0 * x) (hv : (v : Int) = a1 * x - b1 * y ∨ (v : Int) = b1 * y - a1 * x) : Nat.gcd u v = Nat.gcd x y := by
  have dv : ∀ {d p q n : Nat} (r s : Nat), d ∣ p → d ∣ q → ((n : Int) = r * p - s * q ∨ (n : Int) = s * q - r * p) → d ∣ n := by
    intro d p q n r s hp hq h
    have h1 : (d : Int) ∣ r * p := Int.dvd_trans (Int.natCast_dvd_natCast.2 hp) (Int.dvd_mul_left _ _)
    have h2 : (d : Int) ∣ s * q := Int.dvd_trans (Int.natCast_dvd_natCast.2 hq) (Int.dvd_mul_left _ _)
    rcases h with h | h
    · exact Int.natCast_dvd_natCast.1 (h ▸ Int.dvd_sub h1 h2)
    · exact Int.natCast_dvd_natCast.1 (h ▸ Int.dvd_sub h2 h1)
  apply Nat.dvd_antisymm
  · refine Nat.dvd_gcd ?_ ?_
    · conv => rhs; rw [hx]
      exact Nat.dvd_add (Nat.dvd_trans (Nat.gcd_dvd_left u v) (Nat.dvd_mul_left _ _)) (Nat.dvd_trans (Nat.gcd_dvd_right u v) (Nat.dvd_mul_left _ _))
    · conv => rhs; rw [hy]
      exact Nat.dvd_add (Nat.dvd_trans (Nat.gcd_dvd_left u v) (Nat.dvd_mul_left _ _)) (Nat.dvd_trans (Nat.gcd_dvd_right u v) (Nat.dvd_mul_left _ _))
  · exact Nat.dvd_gcd (dv a0 b0 (Nat.gcd_dvd_left x y) (Nat.gcd_dvd_right x y) hu) (dv a1 b1 (Nat.gcd_dvd_left x y) (Nat.gcd_dvd_right x y) hv)
theorem lt_B {n m : Nat} (h : n * n ≤ m) (hm : m < B * B) : n < B := by
  rcases Nat.lt_or_ge n B with h1 | h1
  · exact h1
  · have := Nat.mul_le_mul h1 h1; omega
theorem rho_scale (o : Bool) (p q : Nat) (x y t : Int) : rho o p q (x * t) (y * t) = rho o p q x y * t := by
  unfold rho; cases o <;> simp <;> grind
theorem Leh.give {x y t ah bh a b a0 b0 a1 b1 na nb : Nat} {ev : Bool} (h : Leh ((x * t : Nat) : Int) ((y * t : Nat) : Int) ah bh a b a0 b0 a1 b1 na nb ev) (ht : 0 < t) (h0 : b0 ≠ 0) (hah : ah < B * B) :
    ∃ u v, Give x y a0 b0 a1 b1 ev u v := by
  rcases h.now with ⟨_, _, _, _, _, _, e, _⟩ | ⟨h1, h2, h3, h4, h5, h6, h7, h8, h9, h10⟩
  · exact absurd e h0
  · have hB := lt_B h8 hah
    push_cast at h3 h4 h5 h6
    rw [rho_scale] at h3 h4 h5 h6
    rw [rho_scale] at h4
    have ht' : (0 : Int) < t := by omega
    have h5' := h5.resolve_left h0
    have k3 : 0 ≤ rho ev a1 b1 x y := Int.le_of_mul_le_mul_right (by omega) ht'
    have k4 : rho ev a1 b1 x y < rho (!ev) a0 b0 x y := Int.lt_of_mul_lt_mul_right h4 (by omega)
    have k5 : rho (!ev) a0 b0 x y ≤ y := Int.le_of_mul_le_mul_right h5' ht'
    obtain ⟨u, hu⟩ := Int.eq_ofNat_of_zero_le (show 0 ≤ rho (!ev) a0 b0 x y by omega)
    obtain ⟨v, hv⟩ := Int.eq_ofNat_of_zero_le k3
    have hxy : (x : Int) = b1 * u + b0 * v ∧ (y : Int) = a1 * u + a0 * v := by
      rw [← hu, ← hv]
      unfold rho
      cases ev <;> simp at h7 ⊢ <;> constructor <;> grind
    refine ⟨u, v, hu.symm, hv.symm, by omega, by omega, gcd_rows (a0 := a0) (b0 := b0) (a1 := a1) (b1 := b1) (by have := hxy.1; norm_cast at this) (by have := hxy.2; norm_cast at this) ?_ ?_, by omega, by omega, by omega, hB⟩
    · rw [← hu]; unfold rho; cases ev <;> simp
    · rw [← hv]; unfold rho; cases ev <;> simp

/-- Two products and their difference, limb by limb. -/
theorem combine_step {R x y a b pc mc bo d b' i : Nat} (hR : R < B ^ i) (h : x % B ^ i * a + (bo + mc) * B ^ i = R + y % B ^ i * b + pc * B ^ i)
    (hd : (pc + dg x i * a) % B + b' * B = d + (mc + dg y i * b) % B + bo) :
    x % B ^ (i + 1) * a + (b' + (mc + dg y i * b) / B) * B ^ (i + 1) = put R i d + y % B ^ (i + 1) * b + (pc + dg x i * a) / B * B ^ (i + 1) := by
  rw [put_top hR, mod_succ, mod_succ, pow_succ']
  have h1 := Nat.mod_add_div (pc + dg x i * a) B
  have h2 := Nat.mod_add_div (mc + dg y i * b) B
  generalize (pc + dg x i * a) % B = e1 at *
  generalize (pc + dg x i * a) / B = e2 at *
  generalize (mc + dg y i * b) % B = e3 at *
  generalize (mc + dg y i * b) / B = e4 at *
  generalize B ^ i = p at *
  generalize dg x i = dx at *
  generalize dg y i = dy at *
  generalize x % p = xm at *
  generalize y % p = ym at *
  generalize B = β at *
  grind
theorem combine_end {R x y a b pc mc bo L u : Nat} (hx : x < B ^ L) (hy : y < B ^ L) (hR : R < B ^ L) (hu : (u : Int) = a * x - b * y) (hL : u < B ^ L)
    (h : x % B ^ L * a + (bo + mc) * B ^ L = R + y % B ^ L * b + pc * B ^ L) : R = u := by
  rw [mod_of_lt hx, mod_of_lt hy] at h
  generalize B ^ L = p at *
  have h1 : (u : Int) + ((bo : Int) + mc - pc) * p = R := by
    have : ((x * a + (bo + mc) * p : Nat) : Int) = ((R + y * b + pc * p : Nat) : Int) := by rw [h]
    push_cast at this
    grind
  rcases Int.lt_trichotomy ((bo : Int) + mc - pc) 0 with h2 | h2 | h2
  · have : ((bo : Int) + mc - pc) * p ≤ -1 * p := Int.mul_le_mul_of_nonneg_right (by omega) (by omega)
    omega
  · rw [h2] at h1; omega
  · have : 1 * (p : Int) ≤ ((bo : Int) + mc - pc) * p := Int.mul_le_mul_of_nonneg_right (by omega) (by omega)
    omega
theorem carry_le32 {c d f : Nat} (hc : c ≤ 4294967295) (hd : d ≤ 4294967295) (hf : f ≤ 4294967295) : (c + d * f) / B ≤ 4294967295 ∧ c + d * f ≤ 18446744073709551615 := by
  have h := Nat.mul_le_mul hd hf
  rw [B_eq]
  generalize d * f = t at *
  omega

theorem B_two_pow {s : Nat} (hs : s < 32) : B = 2 ^ s * 2 ^ (32 - s) := by
  rw [B_eq, ← Nat.pow_add, show s + (32 - s) = 32 by omega]
theorem shift_div {p q d e : Nat} (hp : 0 < p) (he : e < p) : (d * p + e) / (p * q) = d * p / (p * q) := by
  rw [← Nat.div_div_eq_div_mul, ← Nat.div_div_eq_div_mul, Nat.mul_div_cancel _ hp, Nat.add_comm, Nat.add_mul_div_right _ _ hp, Nat.div_eq_of_lt he, Nat.zero_add]
theorem top_sum {T r P s c : Nat} (hP : 0 < P) (hc : r * 2 ^ s / P = c) : (r + P * T) * 2 ^ s / P = T * 2 ^ s + c := by
  rw [Nat.add_mul, Nat.mul_assoc, Nat.add_mul_div_left _ _ hP, hc, Nat.add_comm]
theorem top_rest {d l s p : Nat} (hs : s < 32) (hp : 0 < p) (hl : l < p) : (l + p * d) * 2 ^ s / (p * B) = d * 2 ^ s / B := by
  have he : l * 2 ^ s / p < 2 ^ s := by
    rw [Nat.div_lt_iff_lt_mul hp, Nat.mul_comm (2 ^ s)]
    exact Nat.mul_lt_mul_of_pos_right hl (Nat.pow_pos (by decide))
  rw [← Nat.div_div_eq_div_mul, Nat.add_mul, Nat.mul_assoc, Nat.add_mul_div_left _ _ hp]
  generalize l * 2 ^ s / p = e at *
  have hB := B_two_pow hs
  generalize B = β at *
  subst hB
  rw [Nat.add_comm e]
  exact shift_div (Nat.pow_pos (by decide)) he
/-- The highest 64 bits. -/
theorem top_val {m s z : Nat} (hs : s < 32) (hz : z < B ^ (m + 3)) :
    (dg z (m + 2) * B + dg z (m + 1)) * 2 ^ s + dg z m * 2 ^ s / B = z * 2 ^ s / B ^ (m + 1) := by
  have h1 := div_succ z (m + 1)
  have h2 := div_succ z (m + 2)
  rw [show m + 2 + 1 = m + 3 by omega, Nat.div_eq_of_lt hz] at h2
  rw [show m + 1 + 1 = m + 2 by omega] at h1
  have h4 := split z (m + 1)
  have h5 := top_rest (d := dg z m) hs (pow_pos m) (mod_lt z m)
  rw [← mod_succ, ← pow_succ'] at h5
  have h6 := top_sum (T := z / B ^ (m + 1)) (pow_pos (m + 1)) h5
  rw [← h4] at h6
  rw [h6]
  generalize B ^ (m + 1) = p at *
  generalize B ^ (m + 2) = q at *
  generalize dg z (m + 2) = d2 at *
  generalize dg z (m + 1) = d1 at *
  have h7 : d2 * B + d1 = z / p := by rw [h1, h2, Nat.mul_zero, Nat.add_zero, Nat.mul_comm B]; exact Nat.add_comm _ _
  rw [h7]
end M
end Go.Proofs.YthnbocojjllfaaaGreatDoor
