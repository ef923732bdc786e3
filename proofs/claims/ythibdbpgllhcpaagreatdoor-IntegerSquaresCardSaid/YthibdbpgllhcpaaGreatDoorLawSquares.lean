/- The law IntegerSquares. -/
import Derived.Test.YthibdbpgllhcpaaGreatDoorNum
namespace Go.Proofs.YthibdbpgllhcpaaGreatDoor
open Go Go.RowKit

theorem zeros11 : ∀ k, k < 11 → (#[.int .i64 0, .int .i64 0, .int .i64 0, .int .i64 0, .int .i64 0, .int .i64 0, .int .i64 0, .int .i64 0, .int .i64 0, .int .i64 0, .int .i64 0] : Array Value)[k]? = some (.int .i64 0)
  | 0, _ => rfl | 1, _ => rfl | 2, _ => rfl | 3, _ => rfl | 4, _ => rfl | 5, _ => rfl | 6, _ => rfl | 7, _ => rfl | 8, _ => rfl | 9, _ => rfl | 10, _ => rfl
  | k + 11, h => absurd h (by omega)
theorem sq_sum (a b : Int) : a * a + b * b + (a * b + a * b) = (a + b) * (a + b) := by
  rw [Int.add_mul, Int.mul_add, Int.mul_add, Int.mul_comm b a]; omega
theorem sq_dif (a b : Int) : a * a - b * b = (a + b) * (a - b) := by
  rw [Int.add_mul, Int.mul_sub, Int.mul_sub, Int.mul_comm b a]; omega

set_option maxHeartbeats 1600000 in
set_option maxRecDepth 100000 in
theorem law_squares {w : World} {A : Option Addr} {n c : Nat} (ht : Tab w) (h : Nums w A n) (hc : n ≤ c) (hcm : c ≤ maxLen) :
    Calls Tryz.prog 3 #[.slice A n c] w fun e w' => e = .returned (.bool true) ∧ Below w.heap.size w w' := by
  have H := Lib.hid (And.intro ht h)
  clear ht h
  go_enter Tryz.func3, Tryz.ntmps3
  go_wp2_with fail
  refine (Run.new H.out.1 H.out.2 hc hcm).mono ?_
  rintro e w0 ⟨g, rfl, H0⟩
  go_wp2_with fail
  refine (H0.out.draw 30 (by omega) (by omega)).mono ?_
  rintro e w1 ⟨sa, a, rfl, HA⟩
  go_wp2_with fail
  refine (HA.out.2.draw 30 (by omega) (by omega)).mono ?_
  rintro e w2 ⟨sb, b, rfl, HB⟩
  go_wp2_with fail
  refine (HB.out.2.add HA.out.1 HB.out.1 (by omega) (by omega)).mono ?_
  rintro e w3 ⟨ssum, rfl, HS⟩
  go_wp2_with fail
  refine (HS.out.2.sub HA.out.1 HB.out.1 (by omega) (by omega)).mono ?_
  rintro e w4 ⟨sdif, rfl, HD⟩
  go_wp2_with fail
  refine (HD.out.2.mul HS.out.1 HS.out.1 (by omega) (by omega) (by omega)).mono ?_
  rintro e w5 ⟨ssq, rfl, HSQ⟩
  go_wp2_with fail
  refine (HSQ.out.2.mul HA.out.1 HA.out.1 (by omega) (by omega) (by omega)).mono ?_
  rintro e w6 ⟨saa, rfl, HAA⟩
  go_wp2_with fail
  refine (HAA.out.2.mul HB.out.1 HB.out.1 (by omega) (by omega) (by omega)).mono ?_
  rintro e w7 ⟨sbb, rfl, HBB⟩
  go_wp2_with fail
  refine (HBB.out.2.mul HA.out.1 HB.out.1 (by omega) (by omega) (by omega)).mono ?_
  rintro e w8 ⟨sab, rfl, HAB⟩
  go_wp2_with fail
  refine (HAB.out.2.add HAA.out.1 HBB.out.1 (by omega) (by omega)).mono ?_
  rintro e w9 ⟨sx, rfl, HX⟩
  go_wp2_with fail
  refine (HX.out.2.add HAB.out.1 HAB.out.1 (by omega) (by omega)).mono ?_
  rintro e w10 ⟨stwo, rfl, HT⟩
  go_wp2_with fail
  refine (HT.out.2.add HX.out.1 HT.out.1 (by omega) (by omega)).mono ?_
  rintro e w11 ⟨sy, rfl, HY⟩
  go_wp2_with fail
  refine (HY.out.2.mul HS.out.1 HD.out.1 (by omega) (by omega) (by omega)).mono ?_
  rintro e w12 ⟨sp, rfl, HP⟩
  go_wp2_with fail
  refine (HP.out.2.sub HAA.out.1 HBB.out.1 (by omega) (by omega)).mono ?_
  rintro e w13 ⟨sq, rfl, HQ⟩
  obtain rfl : sy = ssq := HY.out.1.eq HSQ.out.1 (sq_sum a b)
  obtain rfl : sq = sp := HQ.out.1.eq HP.out.1 (sq_dif a b)
  go_wp2_with fail
  obtain ⟨W2, hW2⟩ : ∃ W2, W2 = w13.alloc (.cells #[.int .i64 0, .int .i64 0, .int .i64 0, .int .i64 0, .int .i64 0, .int .i64 0, .int .i64 0, .int .i64 0, .int .i64 0, .int .i64 0, .int .i64 0] 27) := ⟨_, rfl⟩
  rw [← hW2]
  have hr : Run w g W2 := by rw [hW2]; exact HQ.out.2.op ((Below.refl _ _).alloc (Nat.le_refl _) _)
  have hcells : ∀ k, k < 11 → W2.cell? ⟨w13.heap.size, k, none⟩ = some (.int .i64 0) := by
    intro k hk
    rw [hW2]
    exact cell_at (heap_alloc_new w13 _) (zeros11 k hk)
  have HC := Lib.hid (And.intro hr hcells)
  clear hr hcells hW2
  generalize w13.heap.size = B at *
  go_loop [115] (fun iv => ∃ k : Nat, k ≤ 11 ∧ iv = .int .i64 (k : Int)) (fun iv => 11 - (intOf iv).toNat)
  case atStart => exact ⟨0, by omega, rfl⟩
  case round =>
    obtain ⟨k, hk, rfl⟩ := hrel
    by_cases hlt : k < 11
    · have hcl := HC.out.2 k hlt
      go_wp2
      go_round
      case rel => exact ⟨k + 1, by omega, by go_num⟩
      case measure => simp [intOf]; omega
    · obtain rfl : k = 11 := by omega
      go_wp2_with fail
      refine (HC.out.1.sane H.out.1).mono ?_
      rintro e w14 ⟨rfl, hb⟩
      go_wp2
      go_ret
      exact ⟨rfl, hb⟩
end Go.Proofs.YthibdbpgllhcpaaGreatDoor
