/- plus, minus, compare. -/
import Derived.Test.YthnbocojjllfaaaGreatDoorNatA
import Derived.Lib.MinMax
namespace Go.Proofs.YthnbocojjllfaaaGreatDoor
open Go Go.RowKit

theorem info32 : (Tryz.prog.info? 160).map (fun i => (i.zero, i.size, i.bytes)) = some (some (.int .u32 0), 1, 4) := by kernel_rfl
theorem make_nat (n : Nat) (hn : n ≤ 4611686018427387904 / 65536) (w : World) :
    (Instr.makeSlice 79 (.int .i64 (n : Int)) (.int .i64 (n : Int))).run Tryz.prog w = .ok (.slice (some ⟨w.heap.size, 0, none⟩) n n) (w.alloc (.cells (madeCells (Value.int .u32 0).cells (n * 1)) 160)) := by
  obtain ⟨i, hi, hz, hs, hb⟩ := info_parts info32
  have h := run_make (P := Tryz.prog) w 79 160 i _ Tryz.underlying79 hi hz .i64 .i64 n n (by omega) (by omega) (by rw [hb]; omega) (by omega)
  rw [hs] at h
  simpa using h

theorem cast_mod (t : Nat) : ((t : Int) % 4294967296) = ((t % M.B : Nat) : Int) := by rw [M.B_eq]; omega
theorem cast_div (t : Nat) : ((t : Int) / 4294967296) = ((t / M.B : Nat) : Int) := by rw [M.B_eq]; omega
theorem plus_row {wr : World} {g L x y i : Nat} (hi : i < L) (hr : Row wr g L ((x + y) % M.B ^ i)) :
    Row (wr.setCell ⟨g, i, none⟩ (.int .u32 (((M.carry x y i : Int) + ((M.dg x i : Int) + (M.dg y i : Int))) % 4294967296))) g L ((x + y) % M.B ^ (i + 1)) := by
  rw [M.mod_succ_add, show (M.carry x y i : Int) + ((M.dg x i : Int) + (M.dg y i : Int)) = ((M.carry x y i + (M.dg x i + M.dg y i) : Nat) : Int) by omega, cast_mod]
  exact hr.set hi (Nat.mod_lt _ M.B_pos)
theorem plus_carry (x y i : Nat) : ((M.carry x y i : Int) + ((M.dg x i : Int) + (M.dg y i : Int))) / 4294967296 = (M.carry x y (i + 1) : Int) := by
  rw [M.carry_succ, ← cast_div]; omega
theorem sum_lt {x y l l' L : Nat} (hx : x < M.B ^ l) (hy : y < M.B ^ l') (h : l ≤ L) (h' : l' ≤ L) : x + y < M.B ^ (L + 1) := by
  have h1 := M.pow_mono h
  have h2 := M.pow_mono h'
  have h3 := Nat.mul_le_mul_left (M.B ^ L) M.B_two
  rw [M.pow_succ']
  omega

set_option maxHeartbeats 400000 in
set_option maxRecDepth 100000 in
theorem plus_any {w : World} {A A' : Option Addr} {l l' x y : Nat} (c c' : Nat) (hx : Limbs w A l x) (hy : Limbs w A' l' y) (hl : l ≤ 60000) (hl' : l' ≤ 60000) :
    Calls Tryz.prog 139 #[.slice A l c, .slice A' l' c'] w fun e w' => ∃ v, e = .returned v ∧ IsNat w' v (x + y) ∧ Below w.heap.size w w' := by
  have hmk := make_nat (max l l' + 1) (by omega)
  rw [show ((max l l' + 1 : Nat) : Int) = max (l : Int) l' + 1 by omega] at hmk
  go_enter Tryz.func139, Tryz.ntmps139
  go_wp2_with fail
  have hr0 := Row.new w (max l l' + 1)
  have hb0 : Below w.heap.size w (w.alloc (.cells (madeCells #[Value.int .u32 0] (max l l' + 1)) 160)) := (Below.refl _ _).alloc (Nat.le_refl _) _
  have hlL : l ≤ max l l' := Nat.le_max_left _ _
  have hlL' : l' ≤ max l l' := Nat.le_max_right _ _
  have hL : max l l' ≤ 60000 := by omega
  clear hmk
  generalize w.alloc (.cells (madeCells #[Value.int .u32 0] (max l l' + 1)) 160) = w0 at *
  generalize max l l' = L at *
  have H0 := Lib.hid (And.intro hr0 hb0)
  have HX := Lib.hid hx
  have HY := Lib.hid hy
  clear hr0 hb0 hx hy
  go_loopw [6, 17] (fun cv iv wr => ∃ i, i ≤ L + 1 ∧ iv = .int .i64 (i : Int) ∧ cv = .int .u64 (M.carry x y i : Int) ∧ Row wr w.heap.size (L + 1) ((x + y) % M.B ^ i) ∧ Below w.heap.size w wr) (fun _ iv _ => L + 1 - (intOf iv).toNat)
  case atStart => exact ⟨0, by omega, rfl, by rw [M.carry_zero]; rfl, by simpa [Nat.mod_one] using H0.out.1, H0.out.2⟩
  case round =>
    obtain ⟨i, hi, rfl, rfl, hr, hb⟩ := hrel
    have hx' := HX.out.below hb (Nat.le_refl _)
    have hy' := HY.out.below hb (Nat.le_refl _)
    by_cases hlt : i < L + 1
    · have hcl := M.carry_le x y i
      have hdx := M.dg_le x i
      have hdy := M.dg_le y i
      have hcell := hr.cell hlt
      have hfree := hr.free i
      have HR := Lib.hid hr
      have HB := Lib.hid hb
      clear hr hb
      go_wp2_with (go_at_call 169; refine (limb_any _ _ (by assumption) (by omega) (by omega)).mono ?_; rintro e w' ⟨rfl, rfl⟩)
      go_roundw
      case rel => exact ⟨i + 1, by omega, by go_num, by rw [plus_carry], plus_row hlt HR.out, HB.out.setCell (Nat.le_refl _) _⟩
      case measure => simp [intOf]; omega
    · obtain rfl : i = L + 1 := by omega
      have hlim := (Nat.mod_eq_of_lt (sum_lt HX.out.1 HY.out.1 hlL hlL')) ▸ hr.limbs
      have HB := Lib.hid hb
      clear hr hb hx' hy' hlt hi
      go_wp2_with (go_at_call 170; refine (trim_any (n := x + y) (by assumption) (by omega) (by omega)).mono ?_; rintro e w' ⟨v, rfl, hv, rfl⟩)
      go_ret
      exact ⟨_, rfl, hv, HB.out⟩

theorem sub_div (a b r : Int) (ha : 0 ≤ a) (ha' : a ≤ 4294967295) (hb : 0 ≤ b) (hb' : b ≤ 4294967295) (hr : 0 ≤ r) (hr' : r ≤ 1) :
    IntKind.u64.wrap (IntKind.u64.wrap (a - b) - r) / 9223372036854775808 = if a - b - r < 0 then 1 else 0 := by
  rw [IntKind.wrap_u64, IntKind.wrap_u64]; split <;> omega
theorem sub_mod (a b r : Int) : IntKind.u64.wrap (IntKind.u64.wrap (a - b) - r) % 4294967296 = (a - b - r) % 4294967296 := by
  rw [IntKind.wrap_u64, IntKind.wrap_u64]; omega
theorem minus_borrow (x y i : Nat) : IntKind.u64.wrap (IntKind.u64.wrap ((M.dg x i : Int) - M.dg y i) - M.borrow x y i) / 9223372036854775808 = (M.borrow x y (i + 1) : Int) := by
  have h1 := M.dg_le x i
  have h2 := M.dg_le y i
  have h3 := M.borrow_le x y i
  rw [sub_div _ _ _ (by omega) (by omega) (by omega) (by omega) (by omega) (by omega), M.borrow_succ]
  split <;> rfl
theorem minus_row {wr : World} {g L x y i : Nat} (hi : i < L) (hyx : y ≤ x) (hr : Row wr g L ((x - y) % M.B ^ i)) :
    Row (wr.setCell ⟨g, i, none⟩ (.int .u32 (IntKind.u64.wrap (IntKind.u64.wrap ((M.dg x i : Int) - M.dg y i) - M.borrow x y i) % 4294967296))) g L ((x - y) % M.B ^ (i + 1)) := by
  have h := M.dg_sub hyx i
  have hB : (M.B : Int) = 4294967296 := by rw [M.B_eq]; rfl
  rw [hB] at h
  rw [sub_mod, ← h, M.mod_succ_sub hyx i (M.dg (x - y) i) (by rw [hB]; exact h)]
  exact hr.set hi (M.dg_lt _ _)

set_option maxHeartbeats 400000 in
set_option maxRecDepth 100000 in
theorem minus_any {w : World} {A A' : Option Addr} {l l' x y : Nat} (c c' : Nat) (hx : Limbs w A l x) (hy : Limbs w A' l' y) (hyx : y ≤ x) (hl : l ≤ 60000) (hl' : l' ≤ 60000) :
    Calls Tryz.prog 141 #[.slice A l c, .slice A' l' c'] w fun e w' => ∃ v, e = .returned v ∧ IsNat w' v (x - y) ∧ Below w.heap.size w w' := by
  have hmk := make_nat l (by omega)
  go_enter Tryz.func141, Tryz.ntmps141
  go_wp2_with fail
  have hr0 := Row.new w l
  have hb0 : Below w.heap.size w (w.alloc (.cells (madeCells #[Value.int .u32 0] l) 160)) := (Below.refl _ _).alloc (Nat.le_refl _) _
  clear hmk
  generalize w.alloc (.cells (madeCells #[Value.int .u32 0] l) 160) = w0 at *
  have H0 := Lib.hid (And.intro hr0 hb0)
  have HX := Lib.hid hx
  have HY := Lib.hid hy
  have HYX := Lib.hid hyx
  clear hr0 hb0 hx hy hyx
  go_loopw [6, 14] (fun cv iv wr => ∃ i, i ≤ l ∧ iv = .int .i64 (i : Int) ∧ cv = .int .u64 (M.borrow x y i : Int) ∧ Row wr w.heap.size l ((x - y) % M.B ^ i) ∧ Below w.heap.size w wr) (fun _ iv _ => l - (intOf iv).toNat)
  case atStart => exact ⟨0, by omega, rfl, by rw [M.borrow_zero]; rfl, by simpa [Nat.mod_one] using H0.out.1, H0.out.2⟩
  case round =>
    obtain ⟨i, hi, rfl, rfl, hr, hb⟩ := hrel
    have hx' := HX.out.below hb (Nat.le_refl _)
    have hy' := HY.out.below hb (Nat.le_refl _)
    by_cases hlt : i < l
    · have hcl := M.borrow_le x y i
      have hdx := M.dg_le x i
      have hdy := M.dg_le y i
      have hcell := hr.cell hlt
      have hfree := hr.free i
      have HR := Lib.hid hr
      have HB := Lib.hid hb
      clear hr hb
      go_wp2_with (go_at_call 169; refine (limb_any _ _ (by assumption) (by omega) (by omega)).mono ?_; rintro e w' ⟨rfl, rfl⟩)
      go_roundw
      case rel => exact ⟨i + 1, by omega, by go_num, by rw [minus_borrow], minus_row hlt HYX.out HR.out, HB.out.setCell (Nat.le_refl _) _⟩
      case measure => simp [intOf]; omega
    · obtain rfl : i = l := by omega
      have hlim := (Nat.mod_eq_of_lt (Nat.lt_of_le_of_lt (Nat.sub_le x y) HX.out.1)) ▸ hr.limbs
      have HB := Lib.hid hb
      clear hr hb hx' hy' hlt hi
      go_wp2_with (go_at_call 170; refine (trim_any (n := x - y) (by assumption) (by omega) (by omega)).mono ?_; rintro e w' ⟨v, rfl, hv, rfl⟩)
      go_ret
      exact ⟨_, rfl, hv, HB.out⟩
end Go.Proofs.YthnbocojjllfaaaGreatDoor
