/- Long division: numbers shifted to the left and to the right. Long division: the arithmetic of a round; the shift that makes the divisor's highest bit 1. Long division: divideLong. divide, by any number. -/
import Derived.Test.YtjghgbfagjhdgaaGreatDoorDivs
import Derived.Test.YtjghgbfagjhdgaaGreatDoorShelf
namespace Go.Proofs.YtjghgbfagjhdgaaGreatDoor
open Go Go.RowKit

theorem two_pow_le {s : Nat} (hs : s < 32) : 2 ^ s ≤ 2147483648 := by
  have := Nat.pow_le_pow_right (n := 2) (by decide) (show s ≤ 31 by omega)
  exact this
theorem B_split {s : Nat} (hs : s < 32) : M.B = 2 ^ s * 2 ^ (32 - s) := by
  rw [M.B_eq, ← Nat.pow_add, show s + (32 - s) = 32 by omega]
theorem shl_or {k d s : Nat} (hk : k < 2 ^ s) (hd : d ≤ 4294967295) (hs : s < 32) : bits .or .u64 (k : Int) (IntKind.u64.wrap ((d : Int) * 2 ^ s)) = ((k + d * 2 ^ s : Nat) : Int) := by
  have h2 := two_pow_le hs
  have hm := Nat.mul_le_mul hd h2
  have h := Nat.two_pow_add_eq_or_of_lt hk d
  have e : ((d : Int) * 2 ^ s) = ((d * 2 ^ s : Nat) : Int) := by push_cast; rfl
  rw [e]
  rw [Nat.mul_comm (2 ^ s) d] at h
  generalize d * 2 ^ s = m at *
  rw [show IntKind.u64.wrap (m : Int) = (m : Int) by rw [IntKind.wrap_u64]; omega, u64_or_nat _ _ (by omega) (by omega), Nat.or_comm, ← h, Nat.add_comm]
theorem shl_step {P k x s i t : Nat} (ht : t = k + M.dg x i * 2 ^ s) (hP : P < M.B ^ i) (h : P + k * M.B ^ i = x % M.B ^ i * 2 ^ s) :
    M.put P i (t % M.B) + t / M.B * M.B ^ (i + 1) = x % M.B ^ (i + 1) * 2 ^ s := by
  rw [M.put_top hP, M.mod_succ, M.pow_succ', Nat.add_mul (x % M.B ^ i)]
  have hm := Nat.mod_add_div t M.B
  have h2 : (t % M.B + M.B * (t / M.B)) * M.B ^ i = (k + M.dg x i * 2 ^ s) * M.B ^ i := by rw [hm, ht]
  rw [Nat.add_mul, Nat.add_mul] at h2
  have e1 : t / M.B * (M.B ^ i * M.B) = M.B * (t / M.B) * M.B ^ i := by rw [Nat.mul_comm (M.B ^ i), ← Nat.mul_assoc, Nat.mul_comm (t / M.B)]
  have e2 : M.B ^ i * M.dg x i * 2 ^ s = M.dg x i * 2 ^ s * M.B ^ i := by rw [Nat.mul_assoc, Nat.mul_comm]
  rw [e1, e2]
  omega
theorem shl_carry {k d s : Nat} (hk : k < 2 ^ s) (hd : d ≤ 4294967295) : (k + d * 2 ^ s) / M.B < 2 ^ s := by
  rw [Nat.div_lt_iff_lt_mul M.B_pos, M.B_eq]
  have := Nat.mul_le_mul_right (2 ^ s) (show d + 1 ≤ 4294967296 by omega)
  rw [Nat.add_mul, Nat.one_mul] at this
  rw [Nat.mul_comm (2 ^ s)]
  omega
theorem shl_end {P k x s l : Nat} (hx : x < M.B ^ l) (hs : s < 32) (h : P + k * M.B ^ (l + 1) = x % M.B ^ (l + 1) * 2 ^ s) : P = x * 2 ^ s := by
  rw [M.mod_of_lt (Nat.lt_of_lt_of_le hx (M.pow_mono (Nat.le_succ l)))] at h
  have h2 := two_pow_le hs
  have h3 : x * 2 ^ s < M.B ^ (l + 1) := by
    rw [M.pow_succ']
    exact Nat.mul_lt_mul'' hx (by rw [M.B_eq]; omega)
  rcases Nat.eq_zero_or_pos k with h0 | h0
  · subst h0; omega
  · have := Nat.le_mul_of_pos_left (M.B ^ (l + 1)) h0
    omega
theorem shr_digit {x s i : Nat} (hs : s < 32) : (M.dg x (i + 1) * M.B + M.dg x i) / 2 ^ s % M.B = M.dg (x / 2 ^ s) i := by
  have e1 : M.dg (x / 2 ^ s) i = x / M.B ^ i / 2 ^ s % M.B := by
    unfold M.dg
    rw [Nat.div_div_eq_div_mul, Nat.mul_comm, ← Nat.div_div_eq_div_mul]
  rw [e1, M.div_succ x i, M.div_succ x (i + 1)]
  generalize x / M.B ^ (i + 1 + 1) = r
  have e2 : M.dg x i + M.B * (M.dg x (i + 1) + M.B * r) = (M.dg x (i + 1) * M.B + M.dg x i) + 2 ^ s * (M.B * (2 ^ (32 - s) * r)) := by
    have hb : 2 ^ s * (M.B * (2 ^ (32 - s) * r)) = M.B * (M.B * r) := by
      rw [← Nat.mul_assoc, Nat.mul_comm (2 ^ s), Nat.mul_assoc, ← Nat.mul_assoc (2 ^ s), ← B_split hs]
    rw [hb, Nat.mul_add, Nat.mul_comm (M.dg x (i + 1))]
    omega
  rw [e2, Nat.add_mul_div_left _ _ (Nat.pow_pos (by decide)), Nat.add_mul_mod_self_left]

set_option maxHeartbeats 1600000 in
set_option maxRecDepth 100000 in
theorem shiftedLeft_any {w : World} {A : Option Addr} {l x s : Nat} (c : Nat) (hx : Limbs w A l x) (hl : l ≤ 60000) (hs : s < 32) :
    Calls Tryz.prog 224 #[.slice A l c, .int .i64 (s : Int)] w fun e w' => e = .returned (.slice (some ⟨w.heap.size, 0, none⟩) (l + 1) (l + 1)) ∧ Row w' w.heap.size (l + 1) (x * 2 ^ s) ∧ Below w.heap.size w w' := by
  have hmk := make_nat (l + 1) (by omega)
  simp only [Int.natCast_add, Int.natCast_one] at hmk
  go_enter Tryz.func224, Tryz.ntmps224
  go_wp2_with fail
  have hr0 := Row.new w (l + 1)
  have hb0 : Below w.heap.size w (w.alloc (.cells (madeCells #[Value.int .u32 0] (l + 1)) 193)) := (Below.refl _ _).alloc (Nat.le_refl _) _
  clear hmk
  generalize w.alloc (.cells (madeCells #[Value.int .u32 0] (l + 1)) 193) = w0 at *
  have H0 := Lib.hid (And.intro hr0 hb0)
  have HX := Lib.hid hx
  clear hr0 hb0 hx
  go_loopw [6, 14] (fun cv iv wr => ∃ i k P : Nat, i ≤ l + 1 ∧ iv = .int .i64 (i : Int) ∧ cv = .int .u64 (k : Int) ∧ k < 2 ^ s ∧ Row wr w.heap.size (l + 1) P ∧ P < M.B ^ i ∧ P + k * M.B ^ i = x % M.B ^ i * 2 ^ s ∧ Below w.heap.size w wr) (fun _ iv _ => l + 1 - (intOf iv).toNat)
  case atStart => exact ⟨0, 0, 0, by omega, rfl, rfl, Nat.pow_pos (by decide), H0.out.1, by simp, by simp [Nat.mod_one], H0.out.2⟩
  case round =>
    obtain ⟨i, k, P, hi, rfl, rfl, hk, hr, hP, he, hb⟩ := hrel
    have hlim := HX.out.below hb (Nat.le_refl _)
    have HE := Lib.hid (And.intro hk (And.intro hP (And.intro he hb)))
    clear hk hP he hb
    by_cases hlt : i < l + 1
    · have hcell := hr.cell hlt
      have hfree := hr.free i
      have hdx := M.dg_le x i
      have HR := Lib.hid hr
      clear hr
      go_wp2_with (go_at_call 206; refine (limb_any _ _ (by assumption) (by omega) (by omega)).mono ?_; rintro e w' ⟨rfl, rfl⟩)
      obtain ⟨t, ht⟩ : ∃ t, t = k + M.dg x i * 2 ^ s := ⟨_, rfl⟩
      rw [shl_or HE.out.1 hdx hs, ← ht]
      go_roundw
      case rel =>
        refine ⟨i + 1, t / M.B, M.put P i (t % M.B), by omega, by go_num, by rw [cast_div], by rw [ht]; exact shl_carry HE.out.1 hdx, set_off HR.out hlt (Nat.mod_lt _ M.B_pos) (cast_mod t), ?_, shl_step ht HE.out.2.1 HE.out.2.2.1, HE.out.2.2.2.setCell (Nat.le_refl _) _⟩
        exact M.put_lt (Nat.lt_of_lt_of_le HE.out.2.1 (M.pow_mono (Nat.le_succ i))) (Nat.lt_succ_self i) (Nat.mod_lt _ M.B_pos)
      case measure => simp [intOf]; omega
    · obtain rfl : i = l + 1 := by omega
      have HR := Lib.hid hr
      clear hr
      go_wp2
      go_ret
      exact ⟨rfl, shl_end HX.out.1 hs HE.out.2.2.1 ▸ HR.out, HE.out.2.2.2⟩

set_option maxHeartbeats 1600000 in
set_option maxRecDepth 100000 in
theorem shiftedRight_any {w : World} {A : Option Addr} {l x s : Nat} (c : Nat) (hx : Limbs w A l x) (hl : l ≤ 60000) (hs : s < 32) :
    Calls Tryz.prog 228 #[.slice A l c, .int .i64 (s : Int)] w fun e w' => ∃ v, e = .returned v ∧ IsNat w' v (x / 2 ^ s) ∧ Below w.heap.size w w' := by
  have hmk := make_nat l (by omega)
  go_enter Tryz.func228, Tryz.ntmps228
  go_wp2_with fail
  have hr0 := Row.new w l
  have hb0 : Below w.heap.size w (w.alloc (.cells (madeCells #[Value.int .u32 0] l) 193)) := (Below.refl _ _).alloc (Nat.le_refl _) _
  clear hmk
  generalize w.alloc (.cells (madeCells #[Value.int .u32 0] l) 193) = w0 at *
  have H0 := Lib.hid (And.intro hr0 hb0)
  have HX := Lib.hid hx
  clear hr0 hb0 hx
  go_loopw [12] (fun iv wr => ∃ i : Nat, i ≤ l ∧ iv = .int .i64 (i : Int) ∧ Row wr w.heap.size l (x / 2 ^ s % M.B ^ i) ∧ Below w.heap.size w wr) (fun iv _ => l - (intOf iv).toNat)
  case atStart => exact ⟨0, by omega, rfl, by simpa [Nat.mod_one] using H0.out.1, H0.out.2⟩
  case round =>
    obtain ⟨i, hi, rfl, hr, hb⟩ := hrel
    have hlim := HX.out.below hb (Nat.le_refl _)
    have HB := Lib.hid hb
    clear hb
    by_cases hlt : i < l
    · have hcell := hr.cell hlt
      have hfree := hr.free i
      have hd0 := M.dg_le x i
      have hd1 := M.dg_le x (i + 1)
      have HR := Lib.hid hr
      clear hr
      go_wp2_with fail
      refine (limb_any c (i + 1) hlim (by omega) (by omega)).mono ?_
      rintro e w' ⟨rfl, rfl⟩
      go_wp2_with fail
      refine (limb_any c i hlim (by omega) (by omega)).mono ?_
      rintro e w' ⟨rfl, rfl⟩
      go_wp2_with fail
      rw [or_plain hd1 hd0]
      go_roundw
      case rel =>
        refine ⟨i + 1, by omega, by go_num, ?_, HB.out.setCell (Nat.le_refl _) _⟩
        have hput : x / 2 ^ s % M.B ^ (i + 1) = M.put (x / 2 ^ s % M.B ^ i) i (M.dg (x / 2 ^ s) i) := by
          rw [M.put_top (M.mod_lt _ _), M.mod_succ, Nat.mul_comm]
        rw [hput]
        refine set_off HR.out hlt (M.dg_lt _ _) ?_
        rw [← shr_digit hs, ← cast_mod]
        push_cast
        rfl
      case measure => simp [intOf]; omega
    · obtain rfl : i = l := by omega
      have hlt2 : x / 2 ^ s < M.B ^ i := Nat.lt_of_le_of_lt (Nat.div_le_self _ _) HX.out.1
      have hlimb := (Nat.mod_eq_of_lt hlt2) ▸ hr.limbs
      clear hr hlim hlt hi
      go_wp2_with fail
      refine (trim_any (n := x / 2 ^ s) hlimb (by omega) (by omega)).mono ?_
      rintro e w' ⟨v, rfl, hv, rfl⟩
      have HV := Lib.hid hv
      clear hv
      go_wp2
      go_ret
      exact ⟨_, rfl, HV.out, HB.out⟩
end Go.Proofs.YtjghgbfagjhdgaaGreatDoor
namespace Go.Proofs.YtjghgbfagjhdgaaGreatDoor
open Go Go.RowKit

namespace M
/-- The highest limb of a number with n + 1 limbs. -/
theorem top_eq {y n : Nat} (hy : y < B ^ (n + 1)) : dg y n = y / B ^ n := by
  unfold dg
  refine Nat.mod_eq_of_lt ((Nat.div_lt_iff_lt_mul (pow_pos n)).2 ?_)
  rw [Nat.mul_comm, ← pow_succ']; exact hy
theorem scale_norm {y n f s : Nat} (hf : f = y / B ^ n) (h1 : 2147483648 ≤ f * 2 ^ s) (h2 : (f + 1) * 2 ^ s ≤ B) : y * 2 ^ s < B ^ (n + 1) ∧ 2147483648 * B ^ n ≤ y * 2 ^ s := by
  have h3 : f * B ^ n ≤ y := by rw [hf]; exact Nat.div_mul_le_self _ _
  have h4 : y < (f + 1) * B ^ n := by
    rw [hf, Nat.mul_comm]; exact Nat.lt_mul_div_succ y (pow_pos n)
  have hp : 0 < 2 ^ s := Nat.pow_pos (by decide)
  constructor
  · have h5 : y * 2 ^ s < (f + 1) * B ^ n * 2 ^ s := Nat.mul_lt_mul_of_pos_right h4 hp
    have h6 : (f + 1) * B ^ n * 2 ^ s ≤ B * B ^ n := by
      rw [Nat.mul_assoc, Nat.mul_comm (B ^ n), ← Nat.mul_assoc]; exact Nat.mul_le_mul_right _ h2
    rw [pow_succ', Nat.mul_comm (B ^ n)]
    omega
  · have h5 : f * B ^ n * 2 ^ s ≤ y * 2 ^ s := Nat.mul_le_mul_right _ h3
    have h6 : 2147483648 * B ^ n ≤ f * 2 ^ s * B ^ n := Nat.mul_le_mul_right _ h1
    have h7 : f * B ^ n * 2 ^ s = f * 2 ^ s * B ^ n := by rw [Nat.mul_assoc, Nat.mul_comm (B ^ n), ← Nat.mul_assoc]
    omega
/-- The window of a round, and what the estimate needs of it. -/
theorem window_facts {W D m f s h1 h0 x2 : Nat} (hD : D < B ^ (m + 2)) (hW : W < D * B) (hf : f = dg D (m + 1)) (hs : s = dg D m) (e1 : h1 = dg W (m + 2)) (e0 : h0 = dg W (m + 1)) (e2 : x2 = dg W m) :
    D / B ^ m = f * B + s ∧ W / B ^ m = (h1 * B + h0) * B + x2 ∧ h1 * B + h0 ≤ f * B + s := by
  have hWB : W < B ^ (m + 3) := by
    have : D * B < B ^ (m + 2) * B := Nat.mul_lt_mul_of_pos_right hD B_pos
    rw [← pow_succ'] at this
    exact Nat.lt_trans hW this
  have a1 : D / B ^ m = f * B + s := by
    rw [div_succ D m, ← hs, show m + 1 = m + 1 from rfl, ← top_eq (n := m + 1) hD, ← hf, Nat.mul_comm, Nat.add_comm]
  have a2 : W / B ^ (m + 1) = h1 * B + h0 := by
    rw [div_succ W (m + 1), ← e0, ← top_eq (n := m + 1 + 1) hWB, show m + 1 + 1 = m + 2 from rfl, ← e1, Nat.mul_comm, Nat.add_comm]
  have a3 : W / B ^ m = (h1 * B + h0) * B + x2 := by
    rw [div_succ W m, ← e2, a2, Nat.mul_comm, Nat.add_comm]
  refine ⟨a1, a3, ?_⟩
  rw [← a1, ← a2]
  rw [pow_succ', ← Nat.div_div_eq_div_mul]
  have h5 : W / B ^ m ≤ D * B / B ^ m := Nat.div_le_div_right (Nat.le_of_lt hW)
  have h6 : W < D * B := hW
  have h7 : W / B ^ m / B = W / B / B ^ m := by rw [Nat.div_div_eq_div_mul, Nat.mul_comm, ← Nat.div_div_eq_div_mul]
  rw [h7]
  refine Nat.div_le_div_right ?_
  have : W / B < D := (Nat.div_lt_iff_lt_mul B_pos).2 hW
  omega
/-- The estimate of a round is the digit, or one more. -/
theorem round_est {W D m E T q : Nat} (hE : E = D / B ^ m) (hT : T = W / B ^ m) (hq : q < B) (hqT : q * E ≤ T) (hmax : ∀ Q, Q < B → Q * E ≤ T → Q ≤ q) (hEB : B ≤ E) (h0 : 0 < D) (hW : W < D * B) : W / D ≤ q ∧ q ≤ W / D + 1 := by
  have hp := pow_pos m
  constructor
  · refine hmax _ ?_ ?_
    · rw [Nat.div_lt_iff_lt_mul h0, Nat.mul_comm]; exact hW
    · refine est_low (W := W) (D := D) (p := B ^ m) ?_ ?_ (Nat.div_mul_le_self _ _)
      · rw [hE]; exact Nat.div_mul_le_self _ _
      · rw [hT, Nat.mul_comm]; exact Nat.lt_mul_div_succ W hp
  · refine est_high (p := B ^ m) (E := E) (T := T) ?_ ?_ hqT (by omega) h0
    · rw [hE, Nat.mul_comm]; exact Nat.lt_mul_div_succ D hp
    · rw [hT]; exact Nat.div_mul_le_self _ _
/-- What is left of a round whose estimate is the digit. -/
theorem round_hit {R N N' Q d b c BL : Nat} (hN : N = R + Q * d) (h : N' + Q * d = N + (b + c) * BL) (hN' : N' < BL) : b = 0 ∧ c = 0 ∧ N' = R := by
  have h1 : (b + c) * BL < BL := by omega
  have h2 : b + c = 0 := by
    rcases Nat.eq_zero_or_pos (b + c) with h3 | h3
    · exact h3
    · have := Nat.le_mul_of_pos_left BL h3; omega
  rw [h2, Nat.zero_mul] at h
  omega
/-- What is left of a round whose estimate is one more than the digit. -/
theorem round_miss {R N N' N2 Q d b c c2 BL : Nat} (hN : N = R + Q * d) (hR : R < d) (h : N' + (Q + 1) * d = N + (b + c) * BL) (hc : c = 0) (hb : b ≤ 1) (h2 : N2 + c2 * BL = N' + d) (hN2 : N2 < BL) (hRB : R < BL) : b = 1 ∧ N2 = R := by
  rw [Nat.add_mul] at h
  subst hc
  rcases Nat.eq_zero_or_pos b with h3 | h3
  · subst h3; exfalso; omega
  · have hb1 : b = 1 := by omega
    subst hb1
    refine ⟨rfl, ?_⟩
    rcases Nat.lt_trichotomy c2 1 with h4 | h4 | h4
    · have : c2 = 0 := by omega
      subst this; omega
    · subst h4; omega
    · have := Nat.mul_le_mul_right BL (show 2 ≤ c2 by omega)
      omega
end M

theorem lead_norm {f : Nat} (h0 : 0 < f) (h : f ≤ 4294967295) : ∃ s : Nat, s < 32 ∧ (32 - (Lib.bitLen f : Int)) = (s : Int) ∧ 2147483648 ≤ f * 2 ^ s ∧ (f + 1) * 2 ^ s ≤ M.B := by
  obtain ⟨h1, h2, h3⟩ : 1 ≤ Lib.bitLen f ∧ 2 ^ (Lib.bitLen f - 1) ≤ f ∧ f < 2 ^ Lib.bitLen f := Lib.bitLenAux_bounds 64 f (by omega) (by omega)
  have h4 : Lib.bitLen f ≤ 32 := Lib.bitLen_le f 32 (by omega) (by omega)
  generalize Lib.bitLen f = b at *
  refine ⟨32 - b, by omega, by omega, ?_, ?_⟩
  · have := Nat.mul_le_mul_right (2 ^ (32 - b)) h2
    rw [← Nat.pow_add, show b - 1 + (32 - b) = 31 by omega] at this
    exact this
  · have := Nat.mul_le_mul_right (2 ^ (32 - b)) (show f + 1 ≤ 2 ^ b by omega)
    rw [← Nat.pow_add, show b + (32 - b) = 32 by omega] at this
    rw [M.B_eq]; exact this
end Go.Proofs.YtjghgbfagjhdgaaGreatDoor
namespace Go.Proofs.YtjghgbfagjhdgaaGreatDoor
open Go Go.RowKit

theorem put_high (Y i : Nat) : M.put (M.B ^ (i + 1) * (Y / M.B ^ (i + 1))) i (M.dg Y i) = M.B ^ i * (Y / M.B ^ i) := by
  have e : M.B ^ (i + 1) * (Y / M.B ^ (i + 1)) % M.B ^ i = 0 := by rw [M.pow_succ', Nat.mul_assoc]; exact Nat.mul_mod_right _ _
  unfold M.put
  rw [e, Nat.mul_div_cancel_left _ (M.pow_pos (i + 1)), Nat.zero_add, ← M.div_succ]
theorem lead_any {w : World} {f s : Nat} (hf : f ≤ 4294967295) (h : 32 - (Lib.bitLen f : Int) = (s : Int)) :
    Calls Tryz.prog 223 #[.int .u32 (f : Int)] w fun e w' => e = .returned (.int .i64 (s : Int)) ∧ w = w' := by
  refine (Tryz.bits_LeadingZeros32 (f : Int) w (by omega) (by omega)).mono ?_
  rintro e w' ⟨he, hw⟩
  refine ⟨?_, hw.symm⟩
  rw [he]
  exact congrArg (fun z => Ending.returned (Value.int .i64 z)) h

set_option maxHeartbeats 1600000 in
set_option maxRecDepth 100000 in
theorem divideLong_any {w : World} {A A' : Option Addr} {d m x y : Nat} (c c' : Nat) (hx : Limbs w A (m + 2 + d) x) (hy : Limbs w A' (m + 2) y) (ny : M.B ^ (m + 1) ≤ y) (hl : m + 2 + d ≤ 30000) :
    Calls Tryz.prog 202 #[.slice A (m + 2 + d) c, .slice A' (m + 2) c'] w (DivPost w x y) := by
  obtain ⟨b, off, rfl, hb, hc⟩ := hy.at_ (show m + 1 < m + 2 by omega)
  have hcell := hc (m + 1) (by omega)
  have hdg := M.dg_le y (m + 1)
  have htop := M.top_eq (n := m + 1) hy.1
  have hpos : 0 < M.dg y (m + 1) := by
    rw [htop]; exact (Nat.le_div_iff_mul_le (M.pow_pos _)).2 (by omega)
  obtain ⟨s, hs, hse, hs1, hs2⟩ := lead_norm hpos hdg
  obtain ⟨hD1, hD2⟩ := M.scale_norm htop hs1 hs2
  obtain ⟨D, hD⟩ : ∃ D, D = y * 2 ^ s := ⟨_, rfl⟩
  obtain ⟨Z, hZ⟩ : ∃ Z, Z = x * 2 ^ s := ⟨_, rfl⟩
  rw [← hD] at hD1 hD2
  have H := Lib.hid (And.intro hx (And.intro hy (And.intro hD (And.intro hZ (And.intro hD1 hD2)))))
  have hmk := make_nat (d + 1) (by omega)
  have hmk2 := hmk
  rw [show ((d + 1 : Nat) : Int) = (d : Int) + 1 by omega] at hmk
  rw [show ((d + 1 : Nat) : Int) = (m : Int) + 2 + (d : Int) - ((m : Int) + 2) + 1 by omega] at hmk2
  clear ny hx hy hc htop hpos hs1 hs2 hD hZ hD1 hD2
  go_enter Tryz.func202, Tryz.ntmps202
  go_wp2_with fail
  refine (lead_any hdg hse).mono ?_
  rintro e wz ⟨rfl, hwz⟩
  obtain rfl := hwz
  clear hcell hdg hse
  go_wp2_with fail
  refine (shiftedLeft_any c' H.out.2.1 (by omega) hs).mono ?_
  rw [← H.out.2.2.1]
  rintro e w1 ⟨rfl, hrd, hb1⟩
  have H1 := Lib.hid (And.intro hrd hb1)
  clear hrd hb1
  go_wp2_with fail
  refine (shiftedLeft_any c (H.out.1.below H1.out.2 (Nat.le_refl _)) (by omega) hs).mono ?_
  rw [← H.out.2.2.2.1]
  rintro e w2 ⟨rfl, hrr, hb2⟩
  have H2 := Lib.hid (And.intro hrr hb2)
  clear hrr hb2
  go_wp2_with fail
  have hrq := Row.new w2 (d + 1)
  have hb3 : Below w2.heap.size w2 (w2.alloc (.cells (madeCells #[Value.int .u32 0] (d + 1)) 193)) := (Below.refl _ _).alloc (Nat.le_refl _) _
  clear hmk hmk2
  generalize w2.alloc (.cells (madeCells #[Value.int .u32 0] (d + 1)) 193) = w3 at *
  have hgd : w.heap.size < w1.heap.size := H1.out.1.lt
  have hgr : w1.heap.size < w2.heap.size := H2.out.1.lt
  have hb13 : Below w1.heap.size w1 w3 := H2.out.2.trans (hb3.mono H2.out.2.size)
  have hrd3 : Row w3 w.heap.size (m + 2 + 1) D := H1.out.1.below hb13 H1.out.1.lt
  have hrr3 : Row w3 w1.heap.size (m + 2 + d + 1) Z := H2.out.1.below hb3 H2.out.1.lt
  have hb03 : Below w.heap.size w w3 := H1.out.2.trans (hb13.mono H1.out.2.size)
  have H3 := Lib.hid (And.intro hrd3 (And.intro hrr3 (And.intro hrq hb03)))
  have hsz : w.heap.size ≤ w.heap.size := Nat.le_refl _
  obtain ⟨S, hS⟩ : ∃ S, S = w.heap.size := ⟨_, rfl⟩
  obtain ⟨gd, hgd'⟩ : ∃ gd, gd = w.heap.size := ⟨_, rfl⟩
  clear hrq hb3 hb13 hrd3 hrr3 hb03 H1 H2
  generalize w1.heap.size = gr at *
  generalize w2.heap.size = gq at *
  go_loopw [9] (fun iv wr => ∃ k : Nat, k ≤ d + 1 ∧ iv = .int .i64 ((k : Int) - 1) ∧ Row wr w.heap.size (m + 2 + 1) D ∧ Row wr gr (m + 2 + d + 1) (Z % (D * M.B ^ k)) ∧ Row wr gq (d + 1) (M.B ^ k * (Z / D / M.B ^ k)) ∧ Below w.heap.size w wr) (fun iv _ => (intOf iv + 1).toNat)
  case atStart =>
    have hZD : Z < D * M.B ^ (d + 1) := by
      have h1 := H.out.1.1
      have h2 := two_pow_le hs
      have h3 : x * 2 ^ s < M.B ^ (m + 2 + d) * 2147483648 := Nat.lt_of_le_of_lt (Nat.mul_le_mul_left x h2) (Nat.mul_lt_mul_of_pos_right h1 (by decide))
      have h4 : 2147483648 * M.B ^ (m + 1) * M.B ^ (d + 1) ≤ D * M.B ^ (d + 1) := Nat.mul_le_mul_right _ H.out.2.2.2.2.2
      rw [Nat.mul_assoc, ← Nat.pow_add, show m + 1 + (d + 1) = m + 2 + d by omega, Nat.mul_comm] at h4
      rw [H.out.2.2.2.1]
      exact Nat.lt_of_lt_of_le h3 h4
    have e1 : Z % (D * M.B ^ (d + 1)) = Z := Nat.mod_eq_of_lt hZD
    have e2 : M.B ^ (d + 1) * (Z / D / M.B ^ (d + 1)) = 0 := by rw [Nat.div_div_eq_div_mul, Nat.div_eq_of_lt hZD, Nat.mul_zero]
    exact ⟨d + 1, Nat.le_refl _, by go_num, H3.out.1, by rw [e1]; exact H3.out.2.1, by rw [e2]; exact H3.out.2.2.1, H3.out.2.2.2⟩
  case round =>
    obtain ⟨k, hk, rfl, hrd, hrr, hrq, hb⟩ := hrel
    by_cases h0 : k = 0
    · subst h0
      have ez : M.B ^ 0 * (Z / D / M.B ^ 0) = x / y := by
        rw [Nat.pow_zero, Nat.div_one, Nat.one_mul, H.out.2.2.2.1, H.out.2.2.1, Nat.mul_div_mul_right _ _ (Nat.pow_pos (by decide))]
      have er : Z % (D * M.B ^ 0) = x % y * 2 ^ s := by
        rw [Nat.pow_zero, Nat.mul_one, H.out.2.2.2.1, H.out.2.2.1, Nat.mul_mod_mul_right]
      rw [ez] at hrq
      rw [er] at hrr
      have HQ := Lib.hid (And.intro hrq.limbs (And.intro hrr.limbs hb))
      have hrz : x % y * 2 ^ s / 2 ^ s = x % y := Nat.mul_div_cancel _ (Nat.pow_pos (by decide))
      have HZ := Lib.hid hrz
      clear hrd hrr hrq hb ez er hrz
      go_wp2_with fail
      refine (trim_any (n := x / y) HQ.out.1 (by omega) (by omega)).mono ?_
      rintro e w4 ⟨u, rfl, hu, rfl⟩
      have HU := Lib.hid hu
      clear hu
      go_wp2_with fail
      refine (shiftedRight_any (m + 2 + d + 1) HQ.out.2.1 (by omega) hs).mono ?_
      rw [HZ.out]
      rintro e w5 ⟨v, rfl, hv, hb5⟩
      have H5 := Lib.hid (And.intro (HU.out.below hb5 (Nat.le_refl _)) (And.intro hv (HQ.out.2.2.trans (hb5.mono HQ.out.2.2.size))))
      clear hv hb5
      go_wp2
      go_ret2
      exact ⟨_, _, rfl, H5.out.1, H5.out.2.1, H5.out.2.2⟩
    · obtain ⟨i, rfl⟩ : ∃ i, k = i + 1 := ⟨k - 1, by omega⟩
      rw [show (((i + 1 : Nat) : Int) - 1) = (i : Int) by omega]
      have HR := Lib.hid (And.intro hrd (And.intro hrr (And.intro hrq hb)))
      clear hrd hrr hrq hb
      obtain ⟨N, hN⟩ : ∃ N, N = Z % (D * M.B ^ (i + 1)) := ⟨_, rfl⟩
      have hD0 : 0 < D := by have := H.out.2.2.2.2.2; have := M.pow_pos (m + 1); omega
      have hWlt := M.long_window (Z := Z) (i := i) hD0
      have hdig := M.long_digit Z D i
      have hrest := M.long_rest Z D i
      rw [← hN] at hWlt hdig hrest
      have HN := Lib.hid (And.intro hN (And.intro hD0 (And.intro hWlt (And.intro hdig hrest))))
      have hrr1 : Row wr gr (m + 2 + d + 1) N := by rw [hN]; exact HR.out.2.1
      have hw2 : ∀ j, i + j < m + 2 + d + 1 → wr.cell? ⟨gr, i + j, none⟩ = some (.int .u32 (M.dg (N / M.B ^ i) j : Int)) := fun j hj => by
        rw [M.dg_div]; exact hrr1.cell hj
      have hd2 : ∀ j, j < m + 2 + 1 → wr.cell? ⟨w.heap.size, 0 + j, none⟩ = some (.int .u32 (M.dg D j : Int)) := fun j hj => by
        rw [Nat.zero_add]; exact HR.out.1.cell hj
      have hfac := M.window_facts (W := N / M.B ^ i) (m := m) H.out.2.2.2.2.1 hWlt rfl rfl rfl rfl rfl
      have hf2 : 2147483648 ≤ M.dg D (m + 1) := by
        rw [M.top_eq (n := m + 1) H.out.2.2.2.2.1]
        exact (Nat.le_div_iff_mul_le (M.pow_pos _)).2 H.out.2.2.2.2.2
      have hest := estimate_any (w := wr) (gx := gr) (ox := i) (gy := w.heap.size) (oy := 0) (n := m + 2) (m + 2 + d + 1 - i) (m + 2 + 1) (by omega) (by omega)
        (hw2 (m + 2) (by omega)) (hw2 (m + 1) (by omega)) (hw2 m (by omega)) (hd2 (m + 1) (by omega)) (hd2 m (by omega)) (M.dg_le _ _) (M.dg_le _ _) (M.dg_le _ _) (M.dg_le _ _) (M.dg_le _ _) hf2 hfac.2.2
      have HE := Lib.hid (And.intro hest (And.intro hfac hf2))
      have hi1 : i + (m + 2) + 1 - i = m + 2 + 1 := by omega
      clear hN hD0 hWlt hdig hrest hrr1 hw2 hd2 hfac hf2 hest
      go_wp2_with fail
      rw [hi1]
      refine HE.out.1.mono ?_
      rintro e w4 ⟨q, rfl, hqB, hqT, hmax, hdr⟩
      have hB := M.B_eq
      have hqq := M.round_est (W := N / M.B ^ i) (D := D) (m := m) HE.out.2.1.1.symm HE.out.2.1.2.1.symm hqB hqT hmax (by have := HE.out.2.2; have := Nat.mul_le_mul_right M.B (show 1 ≤ M.dg D (m + 1) by omega); omega) HN.out.2.1 HN.out.2.2.1
      rw [HN.out.2.2.2.1] at hqq
      have hq' : q ≤ 4294967295 := by omega
      have hrd4 : Row w4 w.heap.size (m + 2 + 1) D := by obtain ⟨k, rfl⟩ := hdr; exact HR.out.1
      have hrr4 : Row w4 gr (m + 2 + d + 1) N := by obtain ⟨k, rfl⟩ := hdr; rw [HN.out.1]; exact HR.out.2.1
      have hrq4 : Row w4 gq (d + 1) (M.B ^ (i + 1) * (Z / D / M.B ^ (i + 1))) := by obtain ⟨k, rfl⟩ := hdr; exact HR.out.2.2.1
      have hb4 : Below w.heap.size w w4 := HR.out.2.2.2.trans (hdr.below _)
      have hsub := subtractProduct_any (w := w4) (g := gr) (T := m + 2 + d + 1) (N := N) (o := i) (n := m + 2) (D := D) (q := q) (A' := some ⟨w.heap.size, 0, none⟩) (m + 2 + d + 1 - i) (m + 2 + 1) hrr4 (by omega) (hrd4.limbs.cut (by omega) H.out.2.2.2.2.1) (fun b off e => by injection e with e; injection e with e1; omega) (by omega) hq'
      have H4 := Lib.hid (And.intro hrd4 (And.intro hrq4 (And.intro hb4 (And.intro hsub hqq))))
      clear hB hqT hmax hdr hrd4 hrr4 hrq4 hb4 hsub hqq hqB
      go_wp2_with fail
      refine H4.out.2.2.2.1.mono ?_
      rintro e w5 ⟨b5, c5, N5, rfl, hb5, hr5, hd5, he5, hc5, hg5⟩
      have hNL : N < M.B ^ (i + (m + 2 + 1)) := by
        have h1 := Nat.mod_lt Z (Nat.mul_pos HN.out.2.1 (M.pow_pos (i + 1)))
        rw [← HN.out.1] at h1
        have h2 : D * M.B ^ (i + 1) ≤ M.B ^ (m + 1 + 1) * M.B ^ (i + 1) := Nat.mul_le_mul_right _ (Nat.le_of_lt H.out.2.2.2.2.1)
        rw [← Nat.pow_add, show m + 1 + 1 + (i + 1) = i + (m + 2 + 1) by omega] at h2
        omega
      have hDL : D % M.B ^ (m + 2 + 1) = D := M.mod_of_lt (Nat.lt_of_lt_of_le H.out.2.2.2.2.1 (M.pow_mono (by omega)))
      have hN5 : N5 < M.B ^ (i + (m + 2 + 1)) := by
        rw [Nat.div_eq_of_lt hNL] at hd5
        exact Nat.lt_of_div_eq_zero (M.pow_pos _) hd5
      rw [hDL] at he5 hc5
      rw [M.mod_of_lt hNL, M.mod_of_lt hN5, show D * q * M.B ^ i = q * (D * M.B ^ i) by rw [Nat.mul_comm D, Nat.mul_assoc]] at he5
      have hc0 : c5 = 0 := by
        have h1 : D * q < M.B ^ (m + 1 + 1) * M.B := Nat.mul_lt_mul'' H.out.2.2.2.2.1 (by have := M.B_eq; omega)
        rw [← M.pow_succ', show m + 1 + 1 + 1 = m + 2 + 1 by omega] at h1
        rcases Nat.eq_zero_or_pos c5 with h | h
        · exact h
        · have := Nat.le_mul_of_pos_left (M.B ^ (m + 2 + 1)) h; omega
      have hRlt : Z % (D * M.B ^ i) < D * M.B ^ i := Nat.mod_lt _ (Nat.mul_pos HN.out.2.1 (M.pow_pos i))
      obtain ⟨Q, hQ⟩ : ∃ Q, Q = M.dg (Z / D) i := ⟨_, rfl⟩
      have hrest := HN.out.2.2.2.2
      have hqq := H4.out.2.2.2.2
      rw [← hQ] at hrest hqq
      by_cases hhit : q = Q
      · subst hhit
        obtain ⟨rfl, _, hN5R⟩ := M.round_hit hrest he5 hN5
        have hrq5 : Row w5 gq (d + 1) (M.B ^ (i + 1) * (Z / D / M.B ^ (i + 1))) := H4.out.2.1.block (hg5.block gq H4.out.2.1.lt (fun e => by injection e with e; omega))
        have hrd5 : Row w5 w.heap.size (m + 2 + 1) D := H4.out.1.block (hg5.block _ H4.out.1.lt (fun e => by injection e with e; omega))
        have hb5' : Below w.heap.size w w5 := H4.out.2.2.1.grown hg5 H4.out.2.2.1.size (fun k e => by injection e with e; omega)
        have hcq := hrq5.cell (show i < d + 1 by omega)
        have hfq := hrq5.free i
        have H5 := Lib.hid (And.intro hN5R (And.intro hr5 (And.intro hg5 (And.intro hQ (And.intro hrq5 (And.intro hrd5 hb5'))))))
        clear hrq5 hrd5 hb5'
        clear hN5R hr5 hg5 hQ hrest hqq hRlt he5 hc5 hc0 hN5 hNL hDL hd5 hb5
        go_wp2
        go_roundw
        case rel =>
          refine ⟨i, by omega, rfl, H5.out.2.2.2.2.2.1.far (by show w.heap.size ≠ gq; omega) _, ?_, ?_, H5.out.2.2.2.2.2.2.setCell (by show w.heap.size ≤ gq; omega) _⟩
          · rw [← H5.out.1]; exact H5.out.2.1.far (by show gr ≠ gq; omega) _
          · rw [← put_high]
            exact set_off H5.out.2.2.2.2.1 (by omega) (M.dg_lt _ _) (by have h := H5.out.2.2.2.1; omega)
        case measure => simp [intOf]
      · obtain rfl : q = Q + 1 := by omega
        have hb1 : b5 = 1 := by
          rcases Nat.eq_zero_or_pos b5 with h | h
          · exfalso
            subst h hc0
            rw [Nat.add_mul] at he5
            omega
          · omega
        subst hb1
        have hrq5 : Row w5 gq (d + 1) (M.B ^ (i + 1) * (Z / D / M.B ^ (i + 1))) := H4.out.2.1.block (hg5.block gq H4.out.2.1.lt (fun e => by injection e with e; omega))
        have hrd5 : Row w5 w.heap.size (m + 2 + 1) D := H4.out.1.block (hg5.block _ H4.out.1.lt (fun e => by injection e with e; omega))
        have hb5' : Below w.heap.size w w5 := H4.out.2.2.1.grown hg5 H4.out.2.2.1.size (fun k e => by injection e with e; omega)
        have hadd := addBack_any (w := w5) (g := gr) (T := m + 2 + d + 1) (N := N5) (o := i) (n := m + 2) (D := D) (A' := some ⟨w.heap.size, 0, none⟩) (m + 2 + d + 1 - i) (m + 2 + 1) hr5 (by omega) (hrd5.limbs.cut (by omega) H.out.2.2.2.2.1) (fun b off e => by injection e with e; injection e with e1; omega) (by omega)
        have H5 := Lib.hid (And.intro hadd (And.intro hrq5 (And.intro hrd5 (And.intro hb5' (And.intro hQ (And.intro hrest (And.intro hRlt (And.intro he5 (And.intro hc0 (And.intro hN5 hDL))))))))))
        clear hadd hrq5 hrd5 hb5' hQ hrest hRlt he5 hc0 hN5 hDL hqq hd5 hc5 hNL hr5 hg5 hhit hb5
        go_wp2_with fail
        refine H5.out.1.mono ?_
        rintro e w6 ⟨rfl, N6, c6, hr6, hd6, he6, hg6⟩
        have hN6 : N6 < M.B ^ (i + (m + 2 + 1)) := by
          rw [Nat.div_eq_of_lt H5.out.2.2.2.2.2.2.2.2.2.1] at hd6
          exact Nat.lt_of_div_eq_zero (M.pow_pos _) hd6
        rw [M.mod_of_lt hN6, M.mod_of_lt H5.out.2.2.2.2.2.2.2.2.2.1, H5.out.2.2.2.2.2.2.2.2.2.2] at he6
        have hRB : Z % (D * M.B ^ i) < M.B ^ (i + (m + 2 + 1)) := by
          have h1 := H5.out.2.2.2.2.2.2.1
          have h2 : D * M.B ^ i ≤ M.B ^ (m + 1 + 1) * M.B ^ i := Nat.mul_le_mul_right _ (Nat.le_of_lt H.out.2.2.2.2.1)
          rw [← Nat.pow_add] at h2
          have h3 := M.pow_mono (show m + 1 + 1 + i ≤ i + (m + 2 + 1) by omega)
          omega
        have hres := (M.round_miss H5.out.2.2.2.2.2.1 H5.out.2.2.2.2.2.2.1 H5.out.2.2.2.2.2.2.2.1 H5.out.2.2.2.2.2.2.2.2.1 (Nat.le_refl 1) he6 hN6 hRB).2
        have hrq6 : Row w6 gq (d + 1) (M.B ^ (i + 1) * (Z / D / M.B ^ (i + 1))) := H5.out.2.1.block (hg6.block gq H5.out.2.1.lt (fun e => by injection e with e; omega))
        have hrd6 : Row w6 w.heap.size (m + 2 + 1) D := H5.out.2.2.1.block (hg6.block _ H5.out.2.2.1.lt (fun e => by injection e with e; omega))
        have hb6 : Below w.heap.size w w6 := H5.out.2.2.2.1.grown hg6 H5.out.2.2.2.1.size (fun k e => by injection e with e; omega)
        have hcq := hrq6.cell (show i < d + 1 by omega)
        have hfq := hrq6.free i
        have H6 := Lib.hid (And.intro hres (And.intro hr6 (And.intro hrq6 (And.intro hrd6 hb6))))
        clear hres hr6 hrq6 hrd6 hb6 hg6 hd6 he6 hN6 hRB
        go_wp2
        go_roundw
        case rel =>
          refine ⟨i, by omega, rfl, H6.out.2.2.2.1.far (by show w.heap.size ≠ gq; omega) _, ?_, ?_, H6.out.2.2.2.2.setCell (by show w.heap.size ≤ gq; omega) _⟩
          · rw [← H6.out.1]; exact H6.out.2.1.far (by show gr ≠ gq; omega) _
          · rw [← put_high]
            exact set_off H6.out.2.2.1 (by omega) (M.dg_lt _ _) (by have h := H5.out.2.2.2.2.1; omega)
        case measure => simp [intOf]
end Go.Proofs.YtjghgbfagjhdgaaGreatDoor
namespace Go.Proofs.YtjghgbfagjhdgaaGreatDoor
open Go Go.RowKit

set_option maxHeartbeats 800000 in
set_option maxRecDepth 100000 in
theorem divide_many {w : World} {a b : Value} {x y k : Nat} (ha : IsNat w a x) (hb : IsNat w b y) (hx : x < M.B ^ k) (hy : y < M.B ^ k) (hk : k ≤ 30000) (hyx : y ≤ x) (hyB : M.B ≤ y) :
    Calls Tryz.prog 167 #[a, b] w (DivPost w x y) := by
  have hc := cmp_ge hyx
  obtain ⟨A, l, c, rfl, hl, hm, hlk, _, _⟩ := ha.open_ hx
  obtain ⟨A', l', c', rfl, hl', hm', hlk', _, _⟩ := hb.open_ hy
  have h2 : 2 ≤ l' := by
    rcases Nat.lt_or_ge l' 2 with h | h
    · have h3 := M.pow_mono (show l' ≤ 1 by omega)
      rw [Nat.pow_one] at h3
      have := hl'.1
      omega
    · exact h
  have hll : l' ≤ l := by
    rcases Nat.lt_or_ge l l' with h | h
    · have h3 := M.pow_mono (show l ≤ l' - 1 by omega)
      have := hl.1
      rcases hm' with h4 | h4
      · omega
      · omega
    · exact h
  obtain ⟨m, rfl⟩ : ∃ m, l' = m + 2 := ⟨l' - 2, by omega⟩
  obtain ⟨d, rfl⟩ : ∃ d, l = m + 2 + d := ⟨l - (m + 2), by omega⟩
  have hny : M.B ^ (m + 1) ≤ y := by
    rcases hm' with h | h
    · omega
    · exact h
  have H := Lib.hid (And.intro ha (And.intro hb (And.intro hl (And.intro hl' hny))))
  clear ha hb hl hl' hm hm' hny hyB hyx
  go_enter Tryz.func167, Tryz.ntmps167
  go_wp2_with fail
  refine (compare_nat H.out.1 H.out.2.1 hx hy hk).mono ?_
  rintro e w1 ⟨rfl, hd⟩
  have HD := Lib.hid hd
  clear hd hx hy
  go_wp2_with fail
  refine (divideLong_any c c' (H.out.2.2.1.drawn HD.out) (H.out.2.2.2.1.drawn HD.out) H.out.2.2.2.2 (by omega)).mono ?_
  rintro e w2 ⟨u, v, rfl, hu, hv, hb2⟩
  have H2 := Lib.hid (And.intro hu (And.intro hv ((HD.out.below w.heap.size).trans (hb2.mono (HD.out.below w.heap.size).size))))
  clear hu hv hb2
  go_wp2
  go_ret2
  exact ⟨_, _, rfl, H2.out.1, H2.out.2.1, H2.out.2.2⟩
/-- What dividing gives, whatever the divisor. -/
theorem divide_all {w : World} {a b : Value} {x y k : Nat} (ha : IsNat w a x) (hb : IsNat w b y) (hx : x < M.B ^ k) (hy : y < M.B ^ k) (hk1 : 1 ≤ k) (hk : k ≤ 30000) (h0 : 0 < y) :
    Calls Tryz.prog 167 #[a, b] w (DivPost w x y) := by
  rcases Nat.lt_or_ge x y with h | h
  · exact divide_lt ha hb hx hy hk h
  · rcases Nat.lt_or_ge y M.B with h1 | h1
    · exact divide_one ha hb hx h1 hk1 hk h h0
    · exact divide_many ha hb hx hy hk h h1
end Go.Proofs.YtjghgbfagjhdgaaGreatDoor
