/- times. -/
import Derived.Test.YthnbocojjllfaaaGreatDoorNatC
namespace Go.Proofs.YthnbocojjllfaaaGreatDoor
open Go Go.RowKit

theorem times_end {x y i l' P c : Nat} (hy : y < M.B ^ l') (h : P + c * M.B ^ (i + l') = x % M.B ^ i * y + M.dg x i * (y % M.B ^ l') * M.B ^ i) (hP : P < M.B ^ (i + l')) :
    M.put P (i + l') c = x % M.B ^ (i + 1) * y := by
  rw [M.put_top hP, h, Nat.mod_eq_of_lt hy, M.mod_succ, Nat.add_mul]
  congr 1
  rw [Nat.mul_assoc, Nat.mul_comm y, ← Nat.mul_assoc, Nat.mul_comm (M.dg x i)]

theorem mul_wrap {q a b p : Nat} (hq : q ≤ 4294967295) (ha : a ≤ 4294967295) (hb : b ≤ 4294967295) (hp : p ≤ 4294967295) :
    IntKind.u64.wrap ((q : Int) + IntKind.u64.wrap (IntKind.u64.wrap ((a : Int) * (b : Int)) + (p : Int))) = ((q + (a * b + p) : Nat) : Int) := by
  have h := Nat.mul_le_mul ha hb
  rw [IntKind.wrap_u64, IntKind.wrap_u64, IntKind.wrap_u64]
  push_cast
  rw [← Int.natCast_mul]
  generalize a * b = t at *
  omega
theorem mul_bound {q a b p : Nat} (hq : q ≤ 4294967295) (ha : a ≤ 4294967295) (hb : b ≤ 4294967295) (hp : p ≤ 4294967295) : (q + (a * b + p)) / M.B ≤ 4294967295 := by
  have h := Nat.mul_le_mul ha hb
  rw [M.B_eq]
  generalize a * b = t at *
  omega
theorem times_row {wr : World} {g L P q a b k i : Nat} (hk : k < L) (hr : Row wr g L P) (hi : k < i) (hP : P < M.B ^ i) (hq : q ≤ 4294967295) (ha : a ≤ 4294967295) (hb : b ≤ 4294967295) (hp : M.dg P k ≤ 4294967295) :
    Row (wr.setCell ⟨g, k, none⟩ (.int .u32 (IntKind.u64.wrap ((q : Int) + IntKind.u64.wrap (IntKind.u64.wrap ((a : Int) * (b : Int)) + (M.dg P k : Int))) % 4294967296))) g L (M.put P k ((q + (a * b + M.dg P k)) % M.B)) ∧
    M.put P k ((q + (a * b + M.dg P k)) % M.B) < M.B ^ i := by
  rw [mul_wrap hq ha hb hp, cast_mod]
  exact ⟨hr.set hk (Nat.mod_lt _ M.B_pos), M.put_lt hP hi (Nat.mod_lt _ M.B_pos)⟩

set_option maxHeartbeats 800000 in
set_option maxRecDepth 100000 in
theorem times_any {w : World} {A A' : Option Addr} {l l' x y : Nat} (c c' : Nat) (hx : Limbs w A l x) (hy : Limbs w A' l' y) (hl : l ≤ 30000) (hl' : l' ≤ 30000) :
    Calls Tryz.prog 145 #[.slice A l c, .slice A' l' c'] w fun e w' => ∃ v, e = .returned v ∧ IsNat w' v (x * y) ∧ Below w.heap.size w w' := by
  have hmk := make_nat (l + l') (by omega)
  rw [show ((l + l' : Nat) : Int) = (l : Int) + l' by omega] at hmk
  go_enter Tryz.func145, Tryz.ntmps145
  go_wp2_with fail
  have hr0 := Row.new w (l + l')
  have hb0 : Below w.heap.size w (w.alloc (.cells (madeCells #[Value.int .u32 0] (l + l')) 160)) := (Below.refl _ _).alloc (Nat.le_refl _) _
  clear hmk
  generalize w.alloc (.cells (madeCells #[Value.int .u32 0] (l + l')) 160) = w0 at *
  have H0 := Lib.hid (And.intro hr0 hb0)
  have HX := Lib.hid hx
  have HY := Lib.hid hy
  clear hr0 hb0 hx hy
  go_loopw [18] (fun iv wr => ∃ i, i ≤ l ∧ iv = .int .i64 (i : Int) ∧ Row wr w.heap.size (l + l') (x % M.B ^ i * y) ∧ Below w.heap.size w wr) (fun iv _ => l - (intOf iv).toNat)
  case atStart => exact ⟨0, by omega, rfl, by simpa [Nat.mod_one] using H0.out.1, H0.out.2⟩
  case round =>
    obtain ⟨i, hi, rfl, hr, hb⟩ := hrel
    by_cases hlt : i < l
    · obtain ⟨b, off, rfl, _, hc⟩ := (HX.out.below hb (Nat.le_refl _)).at_ hlt
      have hxc := hc i hlt
      have HR := Lib.hid hr
      have HB := Lib.hid hb
      have hdx := M.dg_le x i
      clear hr hb hc
      go_wp2_with fail
      obtain ⟨wo, rfl⟩ : ∃ wo : World, wo = wr := ⟨_, rfl⟩
      go_loopw [8, 25] (fun cv jv wr => ∃ j P q : Nat, j ≤ l' ∧ jv = .int .i64 (j : Int) ∧ cv = .int .u64 (q : Int) ∧ q ≤ 4294967295 ∧ Row wr w.heap.size (l + l') P ∧ P < M.B ^ (i + l') ∧
          P + q * M.B ^ (i + j) = x % M.B ^ i * y + M.dg x i * (y % M.B ^ j) * M.B ^ i ∧ Below w.heap.size w wr) (fun _ jv _ => l' - (intOf jv).toNat)
      case atStart =>
        refine ⟨0, x % M.B ^ i * y, 0, by omega, rfl, rfl, by omega, HR.out, ?_, by simp [Nat.mod_one], HB.out⟩
        rw [Nat.pow_add]
        exact Nat.mul_lt_mul'' (M.mod_lt _ _) HY.out.1
      case round =>
        obtain ⟨j, P, q, hj, rfl, rfl, hq, hr, hP, hE, hb⟩ := hrel
        by_cases hjl : j < l'
        · obtain ⟨b', off', rfl, _, hc⟩ := (HY.out.below hb (Nat.le_refl _)).at_ hjl
          have hyc := hc j hjl
          have hpc := hr.cell (show i + j < l + l' by omega)
          have hpf := hr.free (i + j)
          have HR := Lib.hid (And.intro hr (And.intro hP hE))
          have HB := Lib.hid hb
          have hdy := M.dg_le y j
          have hdp := M.dg_le P (i + j)
          clear hr hb hc hP hE
          go_wp2_with fail
          go_quiet (fail)
          go_wp2
          have R := times_row (b := M.dg y j) (show i + j < l + l' by omega) (HR.out.1.drewN nq) (show i + j < i + l' by omega) HR.out.2.1 hq hdx hdy hdp
          go_roundw
          case rel =>
            refine ⟨j + 1, _, (q + (M.dg x i * M.dg y j + M.dg P (i + j))) / M.B, by omega, by go_num, ?_, mul_bound hq hdx hdy hdp, R.1, R.2, M.mul_step HR.out.2.2, ?_⟩
            · rw [mul_wrap hq hdx hdy hdp, cast_div]
            · exact (HB.out.trans (Drawn.below ⟨nq, rfl⟩ _)).setCell (Nat.le_refl _) _
          case measure => simp [intOf]; omega
        · obtain rfl : j = l' := by omega
          have hpc := hr.cell (show i + j < l + j by omega)
          have hpf := hr.free (i + j)
          have R := Lib.hid (And.intro (hr.set (show i + j < l + j by omega) (show q < M.B by rw [M.B_eq]; omega)) (times_end HY.out.1 hE hP))
          have HB := Lib.hid hb
          have hq2 : (q : Int) % 4294967296 = q := by omega
          clear hr hb hE hP
          go_wp2
          go_roundw
          case rel => exact ⟨i + 1, by omega, by go_num, R.out.2 ▸ R.out.1, HB.out.setCell (Nat.le_refl _) _⟩
          case measure => simp [intOf]; omega
    · obtain rfl : i = l := by omega
      have hlim := (Nat.mod_eq_of_lt HX.out.1) ▸ hr.limbs
      have HB := Lib.hid hb
      clear hr hb hlt hi
      go_wp2_with (go_at_call 170; refine (trim_any (n := x * y) (by assumption) (by omega) (by omega)).mono ?_; rintro e w' ⟨v, rfl, hv, rfl⟩)
      go_ret
      exact ⟨_, rfl, hv, HB.out⟩
end Go.Proofs.YthnbocojjllfaaaGreatDoor
