/- setQuotient, natural64, word, the shifts. -/
import Derived.Test.YthnbocojjllfaaaGreatDoorNatD
namespace Go.Proofs.YthnbocojjllfaaaGreatDoor
open Go Go.RowKit

/-- Of an elder world only block g has turned. -/
theorem only_set {a w : World} {g : Nat} (h : a.grownBy w (some g)) (k : Nat) (u : Value) : a.grownBy (w.setCell ⟨g, k, none⟩ u) (some g) :=
  ⟨h.os, h.tape, h.output, by simpa [World.setCell] using h.size, fun i hi hne => (Below.heap_setCell w ⟨g, k, none⟩ u i (by rintro rfl; exact hne rfl)).trans (h.block i hi hne)⟩
theorem only_refl (w : World) (g : Nat) : w.grownBy w (some g) := ⟨rfl, rfl, rfl, Nat.le_refl _, fun _ _ _ => rfl⟩

/-- The digits from k on are those of the quotient, those below are what they were. -/
def sq (X y Q k : Nat) : Nat := Q % M.B ^ k + M.B ^ k * (X / y / M.B ^ k)
theorem sq_start {X y Q L : Nat} (hX : X < M.B ^ L) (hQ : Q < M.B ^ L) : sq X y Q L = Q := by
  unfold sq
  rw [Nat.div_eq_of_lt (Nat.lt_of_le_of_lt (Nat.div_le_self _ _) hX), Nat.mod_eq_of_lt hQ]; omega
theorem sq_end (X y Q : Nat) : sq X y Q 0 = X / y := by simp [sq, Nat.mod_one]
theorem sq_step (X y Q k : Nat) : M.put (sq X y Q (k + 1)) k (M.dg (X / y) k) = sq X y Q k := by
  have h1 : sq X y Q (k + 1) % M.B ^ k = Q % M.B ^ k := by
    unfold sq
    rw [M.mod_succ, M.pow_succ', Nat.mul_assoc, Nat.add_assoc, ← Nat.mul_add, Nat.add_mul_mod_self_left, Nat.mod_mod]
  have h2 : sq X y Q (k + 1) / M.B ^ (k + 1) = X / y / M.B ^ (k + 1) := by
    unfold sq
    rw [Nat.add_mul_div_left _ _ (M.pow_pos _), Nat.div_eq_of_lt (M.mod_lt _ _), Nat.zero_add]
  unfold M.put
  rw [h1, h2, ← M.div_succ]
  rfl
theorem rest_step (X y k : Nat) : (X / M.B ^ (k + 1) % y * M.B + M.dg X k) % y = X / M.B ^ k % y := by
  rw [M.div_succ X k]
  generalize M.dg X k = d
  generalize X / M.B ^ (k + 1) = q
  rw [Nat.add_comm d, Nat.mul_comm M.B q]
  simp [Nat.add_mod, Nat.mul_mod]
theorem quo_step {X y k : Nat} (hy : 0 < y) : (X / M.B ^ (k + 1) % y * M.B + M.dg X k) / y = M.dg (X / y) k := by
  have e : X / y / M.B ^ k = (X / M.B ^ k) / y := by rw [Nat.div_div_eq_div_mul, Nat.div_div_eq_div_mul, Nat.mul_comm]
  unfold M.dg
  rw [e, ← show M.dg X k = X / M.B ^ k % M.B from rfl]
  conv => rhs; rw [M.div_succ X k]
  have hd := M.dg_lt X k
  generalize M.dg X k = d at *
  generalize X / M.B ^ (k + 1) = q
  have h1 := Nat.mod_add_div q y
  have h2 := Nat.mod_lt q hy
  generalize q % y = r at *
  generalize q / y = t at *
  subst h1
  rw [show d + M.B * (r + y * t) = (r * M.B + d) + y * (M.B * t) by rw [Nat.mul_add, Nat.mul_comm M.B r, ← Nat.mul_assoc, ← Nat.mul_assoc, Nat.mul_comm M.B y]; omega]
  rw [Nat.add_mul_div_left _ _ hy, Nat.add_mul_mod_self_left]
  refine (Nat.mod_eq_of_lt ?_).symm
  rw [Nat.div_lt_iff_lt_mul hy]
  have h3 : (r + 1) * M.B ≤ y * M.B := Nat.mul_le_mul_right _ h2
  rw [Nat.add_mul, Nat.mul_comm y] at h3
  omega

theorem or_plain {r d : Nat} (hr : r ≤ 4294967295) (hd : d ≤ 4294967295) : bits .or .u64 ((r : Int) * 4294967296) (d : Int) = ((r * M.B + d : Nat) : Int) := by
  rw [M.B_eq, show ((r : Int) * 4294967296) = ((r * 4294967296 : Nat) : Int) by omega, u64_or_nat _ _ (by omega) (by omega)]
  have h := Nat.two_pow_add_eq_or_of_lt (i := 32) (b := d) (by omega) r
  rw [Nat.mul_comm r, show (4294967296 : Nat) = 2 ^ 32 by rfl, ← h]
theorem or_wide {r d : Nat} (hr : r ≤ 4294967295) (hd : d ≤ 4294967295) : bits .or .u64 (IntKind.u64.wrap ((r : Int) * 4294967296)) (d : Int) = ((r * M.B + d : Nat) : Int) := by
  rw [← or_plain hr hd]
  congr 1
  rw [IntKind.wrap_u64]; omega
theorem tmod_nat (a b : Nat) : (a : Int).tmod (b : Int) = ((a % b : Nat) : Int) := by rw [Int.tmod_eq_emod_of_nonneg (by omega)]; rfl
theorem tdiv_nat (a b : Nat) : (a : Int).tdiv (b : Int) = ((a / b : Nat) : Int) := by rw [Int.tdiv_eq_ediv_of_nonneg (by omega)]; rfl
theorem sq_rem {X y k r : Nat} (hr : r = X / M.B ^ (k + 1) % y) (hb : r ≤ 4294967295) : (bits .or .u64 ((r : Int) * 4294967296) (M.dg X k : Int)).tmod (y : Int) = ((X / M.B ^ k % y : Nat) : Int) := by
  rw [or_plain hb (M.dg_le X k), tmod_nat, hr, rest_step]
theorem sq_row {wr : World} {g L X y Q k r : Nat} (hk : k < L) (hy : 0 < y) (hr : r = X / M.B ^ (k + 1) % y) (hb : r ≤ 4294967295) (hrow : Row wr g L (sq X y Q (k + 1))) :
    Row (wr.setCell ⟨g, k, none⟩ (.int .u32 (IntKind.u64.wrap ((bits .or .u64 ((r : Int) * 4294967296) (M.dg X k : Int)).tdiv (y : Int)) % 4294967296))) g L (sq X y Q k) := by
  have h := hrow.set hk (M.dg_lt (X / y) k)
  rw [sq_step] at h
  have h2 := M.dg_le (X / y) k
  rw [or_plain hb (M.dg_le X k), tdiv_nat, hr, quo_step hy]
  rwa [show IntKind.u64.wrap (M.dg (X / y) k : Int) % 4294967296 = (M.dg (X / y) k : Int) by rw [IntKind.wrap_u64]; omega]
theorem sq_old {wr : World} {g b off j k : Nat} {u v : Value} (hne : b ≠ g ∨ off = 0) (hj : j < k) (h : wr.cell? ⟨b, off + j, none⟩ = some v) : (wr.setCell ⟨g, k, none⟩ u).cell? ⟨b, off + j, none⟩ = some v := by
  rw [World.cell?_setCell_other]
  · exact h
  · intro e
    injection e with e1 e2
    rcases hne with h1 | h1
    · exact h1 e1.symm
    · omega

set_option maxHeartbeats 800000 in
set_option maxRecDepth 100000 in
theorem setQuotient_any {w : World} {g L Q b off X y : Nat} (cq cx : Nat) (hr : Row w g L Q) (hx : ∀ j, j < L → w.cell? ⟨b, off + j, none⟩ = some (.int .u32 (M.dg X j))) (hX : X < M.B ^ L)
    (hne : b ≠ g ∨ off = 0) (hy : 0 < y) (hy' : y ≤ 4294967295) (hL : L ≤ 100000) :
    Calls Tryz.prog 182 #[.slice (some ⟨g, 0, none⟩) L cq, .slice (some ⟨b, off, none⟩) L cx, .int .u32 (y : Int)] w fun e w' => e = .returned (.int .u32 ((X % y : Nat) : Int)) ∧ Row w' g L (X / y) ∧ w.grownBy w' (some g) := by
  have H := Lib.hid (And.intro hr (And.intro hx (And.intro hX hne)))
  clear hr hx hX hne
  go_enter Tryz.func182, Tryz.ntmps182
  go_wp2_with fail
  go_loopw [7, 8] (fun rv iv wr => ∃ k r : Nat, k ≤ L ∧ iv = .int .i64 ((k : Int) - 1) ∧ rv = .int .u64 (r : Int) ∧ r = X / M.B ^ k % y ∧ Row wr g L (sq X y Q k) ∧ w.grownBy wr (some g) ∧ (∀ j, j < k → wr.cell? ⟨b, off + j, none⟩ = some (.int .u32 (M.dg X j)))) (fun _ iv _ => (intOf iv + 1).toNat)
  case atStart =>
    refine ⟨L, 0, Nat.le_refl _, rfl, rfl, by rw [Nat.div_eq_of_lt H.out.2.2.1, Nat.zero_mod], ?_, only_refl _ _, H.out.2.1⟩
    rw [sq_start H.out.2.2.1 H.out.1.bound]; exact H.out.1
  case round =>
    obtain ⟨k, r, hk, rfl, rfl, hre, hr, hb, hc⟩ := hrel
    have hlt := Nat.mod_lt (X / M.B ^ k) hy
    rw [← hre] at hlt
    have HE := Lib.hid hre
    clear hre
    have hr2 : (r : Int) % 4294967296 = r := by omega
    by_cases h0 : k = 0
    · subst h0
      rw [sq_end] at hr
      have HF := Lib.hid (show r = X % y by have h := HE.out; rwa [Nat.pow_zero, Nat.div_one] at h)
      have HR := Lib.hid (And.intro hr hb)
      clear hr hb hc
      go_wp2
      go_ret
      refine ⟨?_, HR.out.1, HR.out.2⟩
      rw [← HF.out]
      rfl
    · obtain ⟨j, rfl⟩ : ∃ j, k = j + 1 := ⟨k - 1, by omega⟩
      rw [show (((j + 1 : Nat) : Int) - 1) = (j : Int) by omega]
      have hxc := hc j (by omega)
      have hqc := hr.cell (show j < L by omega)
      have hqf := hr.free j
      have hdx := M.dg_le X j
      have HR := Lib.hid (And.intro hr (And.intro hb hc))
      clear hr hb hc
      go_wp2
      go_roundw
      case rel =>
        have R := sq_row (show j < L by omega) hy HE.out (by omega) HR.out.1
        have E := sq_rem HE.out (show r ≤ 4294967295 by omega)
        refine ⟨j, X / M.B ^ j % y, by omega, rfl, ?_, Eq.refl _, R, only_set HR.out.2.1 _ _, fun i hi => sq_old H.out.2.2.2 hi (HR.out.2.2 i (by omega))⟩
        rw [E]
      case measure => simp [intOf]
end Go.Proofs.YthnbocojjllfaaaGreatDoor
