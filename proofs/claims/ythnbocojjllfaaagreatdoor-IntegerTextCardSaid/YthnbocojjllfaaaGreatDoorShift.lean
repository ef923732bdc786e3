/- Long division: numbers shifted to the left and to the right. -/
import Derived.Test.YthnbocojjllfaaaGreatDoorSub
namespace Go.Proofs.YthnbocojjllfaaaGreatDoor
open Go Go.RowKit

theorem two_pow_le {s : Nat} (hs : s < 32) : 2 ^ s ≤ 2147483648 := by
  have := Nat.pow_le_pow_right (n := 2) (by decide) (show s ≤ 31 by omega)
  exact this
theorem B_split {s : Nat} (hs : s < 32) : M.B = 2 ^ s * 2 ^ (32 - s) := by
  rw [M.B_eq, ← Nat.pow_add, show s + (32 - s) = 32 by omega]
theorem shl_or {k d s : Nat} (hk : k < 2 ^ s) (hd : d ≤ 4294967295) (hs : s < 32) : bits .or .u64 (k : Int) (IntKind.u64.wrap ((d : Int) * 2 ^ s)) = ((k + d * 2 ^ s : Nat) : Int) := by
  have h2 := two_pow_le hs
  have hm := Nat.mul_le_mul hd h2
  have h := Nat.two_pow_add_eq_or_of_lt hk d
  have e : ((d : Int) * 2 ^ s) = ((d * 2 ^ s : Nat) : Int) := by push_cast; rfl
  rw [e]
  rw [Nat.mul_comm (2 ^ s) d] at h
  generalize d * 2 ^ s = m at *
  rw [show IntKind.u64.wrap (m : Int) = (m : Int) by rw [IntKind.wrap_u64]; omega, u64_or_nat _ _ (by omega) (by omega), Nat.or_comm, ← h, Nat.add_comm]
theorem shl_step {P k x s i t : Nat} (ht : t = k + M.dg x i * 2 ^ s) (hP : P < M.B ^ i) (h : P + k * M.B ^ i = x % M.B ^ i * 2 ^ s) :
    M.put P i (t % M.B) + t / M.B * M.B ^ (i + 1) = x % M.B ^ (i + 1) * 2 ^ s := by
  rw [M.put_top hP, M.mod_succ, M.pow_succ', Nat.add_mul (x % M.B ^ i)]
  have hm := Nat.mod_add_div t M.B
  have h2 : (t % M.B + M.B * (t / M.B)) * M.B ^ i = (k + M.dg x i * 2 ^ s) * M.B ^ i := by rw [hm, ht]
  rw [Nat.add_mul, Nat.add_mul] at h2
  have e1 : t / M.B * (M.B ^ i * M.B) = M.B * (t / M.B) * M.B ^ i := by rw [Nat.mul_comm (M.B ^ i), ← Nat.mul_assoc, Nat.mul_comm (t / M.B)]
  have e2 : M.B ^ i * M.dg x i * 2 ^ s = M.dg x i * 2 ^ s * M.B ^ i := by rw [Nat.mul_assoc, Nat.mul_comm]
  rw [e1, e2]
  omega
theorem shl_carry {k d s : Nat} (hk : k < 2 ^ s) (hd : d ≤ 4294967295) : (k + d * 2 ^ s) / M.B < 2 ^ s := by
  rw [Nat.div_lt_iff_lt_mul M.B_pos, M.B_eq]
  have := Nat.mul_le_mul_right (2 ^ s) (show d + 1 ≤ 4294967296 by omega)
  rw [Nat.add_mul, Nat.one_mul] at this
  rw [Nat.mul_comm (2 ^ s)]
  omega
theorem shl_end {P k x s l : Nat} (hx : x < M.B ^ l) (hs : s < 32) (h : P + k * M.B ^ (l + 1) = x % M.B ^ (l + 1) * 2 ^ s) : P = x * 2 ^ s := by
  rw [M.mod_of_lt (Nat.lt_of_lt_of_le hx (M.pow_mono (Nat.le_succ l)))] at h
  have h2 := two_pow_le hs
  have h3 : x * 2 ^ s < M.B ^ (l + 1) := by
    rw [M.pow_succ']
    exact Nat.mul_lt_mul'' hx (by rw [M.B_eq]; omega)
  rcases Nat.eq_zero_or_pos k with h0 | h0
  · subst h0; omega
  · have := Nat.le_mul_of_pos_left (M.B ^ (l + 1)) h0
    omega
theorem shr_digit {x s i : Nat} (hs : s < 32) : (M.dg x (i + 1) * M.B + M.dg x i) / 2 ^ s % M.B = M.dg (x / 2 ^ s) i := by
  have e1 : M.dg (x / 2 ^ s) i = x / M.B ^ i / 2 ^ s % M.B := by
    unfold M.dg
    rw [Nat.div_div_eq_div_mul, Nat.mul_comm, ← Nat.div_div_eq_div_mul]
  rw [e1, M.div_succ x i, M.div_succ x (i + 1)]
  generalize x / M.B ^ (i + 1 + 1) = r
  have e2 : M.dg x i + M.B * (M.dg x (i + 1) + M.B * r) = (M.dg x (i + 1) * M.B + M.dg x i) + 2 ^ s * (M.B * (2 ^ (32 - s) * r)) := by
    have hb : 2 ^ s * (M.B * (2 ^ (32 - s) * r)) = M.B * (M.B * r) := by
      rw [← Nat.mul_assoc, Nat.mul_comm (2 ^ s), Nat.mul_assoc, ← Nat.mul_assoc (2 ^ s), ← B_split hs]
    rw [hb, Nat.mul_add, Nat.mul_comm (M.dg x (i + 1))]
    omega
  rw [e2, Nat.add_mul_div_left _ _ (Nat.pow_pos (by decide)), Nat.add_mul_mod_self_left]

set_option maxHeartbeats 1600000 in
set_option maxRecDepth 100000 in
theorem shiftedLeft_any {w : World} {A : Option Addr} {l x s : Nat} (c : Nat) (hx : Limbs w A l x) (hl : l ≤ 60000) (hs : s < 32) :
    Calls Tryz.prog 203 #[.slice A l c, .int .i64 (s : Int)] w fun e w' => e = .returned (.slice (some ⟨w.heap.size, 0, none⟩) (l + 1) (l + 1)) ∧ Row w' w.heap.size (l + 1) (x * 2 ^ s) ∧ Below w.heap.size w w' := by
  have hmk := make_nat (l + 1) (by omega)
  simp only [Int.natCast_add, Int.natCast_one] at hmk
  go_enter Tryz.func203, Tryz.ntmps203
  go_wp2_with fail
  have hr0 := Row.new w (l + 1)
  have hb0 : Below w.heap.size w (w.alloc (.cells (madeCells #[Value.int .u32 0] (l + 1)) 160)) := (Below.refl _ _).alloc (Nat.le_refl _) _
  clear hmk
  generalize w.alloc (.cells (madeCells #[Value.int .u32 0] (l + 1)) 160) = w0 at *
  have H0 := Lib.hid (And.intro hr0 hb0)
  have HX := Lib.hid hx
  clear hr0 hb0 hx
  go_loopw [6, 14] (fun cv iv wr => ∃ i k P : Nat, i ≤ l + 1 ∧ iv = .int .i64 (i : Int) ∧ cv = .int .u64 (k : Int) ∧ k < 2 ^ s ∧ Row wr w.heap.size (l + 1) P ∧ P < M.B ^ i ∧ P + k * M.B ^ i = x % M.B ^ i * 2 ^ s ∧ Below w.heap.size w wr) (fun _ iv _ => l + 1 - (intOf iv).toNat)
  case atStart => exact ⟨0, 0, 0, by omega, rfl, rfl, Nat.pow_pos (by decide), H0.out.1, by simp, by simp [Nat.mod_one], H0.out.2⟩
  case round =>
    obtain ⟨i, k, P, hi, rfl, rfl, hk, hr, hP, he, hb⟩ := hrel
    have hlim := HX.out.below hb (Nat.le_refl _)
    have HE := Lib.hid (And.intro hk (And.intro hP (And.intro he hb)))
    clear hk hP he hb
    by_cases hlt : i < l + 1
    · have hcell := hr.cell hlt
      have hfree := hr.free i
      have hdx := M.dg_le x i
      have HR := Lib.hid hr
      clear hr
      go_wp2_with (go_at_call 169; refine (limb_any _ _ (by assumption) (by omega) (by omega)).mono ?_; rintro e w' ⟨rfl, rfl⟩)
      obtain ⟨t, ht⟩ : ∃ t, t = k + M.dg x i * 2 ^ s := ⟨_, rfl⟩
      rw [shl_or HE.out.1 hdx hs, ← ht]
      go_roundw
      case rel =>
        refine ⟨i + 1, t / M.B, M.put P i (t % M.B), by omega, by go_num, by rw [cast_div], by rw [ht]; exact shl_carry HE.out.1 hdx, set_off HR.out hlt (Nat.mod_lt _ M.B_pos) (cast_mod t), ?_, shl_step ht HE.out.2.1 HE.out.2.2.1, HE.out.2.2.2.setCell (Nat.le_refl _) _⟩
        exact M.put_lt (Nat.lt_of_lt_of_le HE.out.2.1 (M.pow_mono (Nat.le_succ i))) (Nat.lt_succ_self i) (Nat.mod_lt _ M.B_pos)
      case measure => simp [intOf]; omega
    · obtain rfl : i = l + 1 := by omega
      have HR := Lib.hid hr
      clear hr
      go_wp2
      go_ret
      exact ⟨rfl, shl_end HX.out.1 hs HE.out.2.2.1 ▸ HR.out, HE.out.2.2.2⟩

set_option maxHeartbeats 1600000 in
set_option maxRecDepth 100000 in
theorem shiftedRight_any {w : World} {A : Option Addr} {l x s : Nat} (c : Nat) (hx : Limbs w A l x) (hl : l ≤ 60000) (hs : s < 32) :
    Calls Tryz.prog 207 #[.slice A l c, .int .i64 (s : Int)] w fun e w' => ∃ v, e = .returned v ∧ IsNat w' v (x / 2 ^ s) ∧ Below w.heap.size w w' := by
  have hmk := make_nat l (by omega)
  go_enter Tryz.func207, Tryz.ntmps207
  go_wp2_with fail
  have hr0 := Row.new w l
  have hb0 : Below w.heap.size w (w.alloc (.cells (madeCells #[Value.int .u32 0] l) 160)) := (Below.refl _ _).alloc (Nat.le_refl _) _
  clear hmk
  generalize w.alloc (.cells (madeCells #[Value.int .u32 0] l) 160) = w0 at *
  have H0 := Lib.hid (And.intro hr0 hb0)
  have HX := Lib.hid hx
  clear hr0 hb0 hx
  go_loopw [12] (fun iv wr => ∃ i : Nat, i ≤ l ∧ iv = .int .i64 (i : Int) ∧ Row wr w.heap.size l (x / 2 ^ s % M.B ^ i) ∧ Below w.heap.size w wr) (fun iv _ => l - (intOf iv).toNat)
  case atStart => exact ⟨0, by omega, rfl, by simpa [Nat.mod_one] using H0.out.1, H0.out.2⟩
  case round =>
    obtain ⟨i, hi, rfl, hr, hb⟩ := hrel
    have hlim := HX.out.below hb (Nat.le_refl _)
    have HB := Lib.hid hb
    clear hb
    by_cases hlt : i < l
    · have hcell := hr.cell hlt
      have hfree := hr.free i
      have hd0 := M.dg_le x i
      have hd1 := M.dg_le x (i + 1)
      have HR := Lib.hid hr
      clear hr
      go_wp2_with fail
      refine (limb_any c (i + 1) hlim (by omega) (by omega)).mono ?_
      rintro e w' ⟨rfl, rfl⟩
      go_wp2_with fail
      refine (limb_any c i hlim (by omega) (by omega)).mono ?_
      rintro e w' ⟨rfl, rfl⟩
      go_wp2_with fail
      rw [or_plain hd1 hd0]
      go_roundw
      case rel =>
        refine ⟨i + 1, by omega, by go_num, ?_, HB.out.setCell (Nat.le_refl _) _⟩
        have hput : x / 2 ^ s % M.B ^ (i + 1) = M.put (x / 2 ^ s % M.B ^ i) i (M.dg (x / 2 ^ s) i) := by
          rw [M.put_top (M.mod_lt _ _), M.mod_succ, Nat.mul_comm]
        rw [hput]
        refine set_off HR.out hlt (M.dg_lt _ _) ?_
        rw [← shr_digit hs, ← cast_mod]
        push_cast
        rfl
      case measure => simp [intOf]; omega
    · obtain rfl : i = l := by omega
      have hlt2 : x / 2 ^ s < M.B ^ i := Nat.lt_of_le_of_lt (Nat.div_le_self _ _) HX.out.1
      have hlimb := (Nat.mod_eq_of_lt hlt2) ▸ hr.limbs
      clear hr hlim hlt hi
      go_wp2_with fail
      refine (trim_any (n := x / 2 ^ s) hlimb (by omega) (by omega)).mono ?_
      rintro e w' ⟨v, rfl, hv, rfl⟩
      have HV := Lib.hid hv
      clear hv
      go_wp2
      go_ret
      exact ⟨_, rfl, HV.out, HB.out⟩
end Go.Proofs.YthnbocojjllfaaaGreatDoor
