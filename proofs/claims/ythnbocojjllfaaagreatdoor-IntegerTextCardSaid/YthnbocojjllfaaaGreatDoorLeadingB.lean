/- leading. -/
import Derived.Test.YthnbocojjllfaaaGreatDoorLeading
namespace Go.Proofs.YthnbocojjllfaaaGreatDoor
open Go Go.RowKit

set_option maxHeartbeats 1600000 in
set_option maxRecDepth 100000 in
theorem leading_any {w : World} {A A' : Option Addr} {l' m x y : Nat} (c c' : Nat) (hx : Limbs w A (m + 3) x) (hy : Limbs w A' l' y) (hyx : y ≤ x) (nx : M.B ^ (m + 2) ≤ x) (hm : m ≤ 50000) (hl' : l' ≤ 60000) :
    Calls Tryz.prog 188 #[.slice A (m + 3) c, .slice A' l' c'] w fun e w' => ∃ s : Nat, e = .returned (.tuple #[.int .u64 ((x * 2 ^ s / M.B ^ (m + 1) : Nat) : Int), .int .u64 ((y * 2 ^ s / M.B ^ (m + 1) : Nat) : Int)]) ∧ s < 32 ∧ x * 2 ^ s < M.B ^ (m + 3) ∧ Below w.heap.size w w' := by
  obtain ⟨b, off, rfl, hb, hc⟩ := hx.at_ (show m + 2 < m + 3 by omega)
  have hcell := hc (m + 2) (by omega)
  have hdg := M.dg_le x (m + 2)
  have htop := M.top_eq (n := m + 2) hx.1
  have hpos : 0 < M.dg x (m + 2) := by
    rw [htop]; exact (Nat.le_div_iff_mul_le (M.pow_pos _)).2 (by omega)
  obtain ⟨s, hs, hse, hs1, hs2⟩ := lead_norm hpos hdg
  have hN := (M.scale_norm htop hs1 hs2).1
  have hNy : y * 2 ^ s < M.B ^ (m + 3) := Nat.lt_of_le_of_lt (Nat.mul_le_mul_right _ hyx) hN
  obtain ⟨n, hn⟩ : ∃ n, n = m + 3 := ⟨_, rfl⟩
  have i1 : (m : Int) + 3 = (n : Int) := by omega
  have i2 : IntKind.i64.wrap ((n : Int) - 1) = (m : Int) + 2 := by rw [IntWalk.i64_in _ (by omega)]; omega
  have i3 : (n : Int) - 1 = (m : Int) + 2 := by omega
  obtain ⟨av, hav⟩ : ∃ av, av = x * 2 ^ s / M.B ^ (m + 1) := ⟨_, rfl⟩
  obtain ⟨bv, hbv⟩ : ∃ bv, bv = y * 2 ^ s / M.B ^ (m + 1) := ⟨_, rfl⟩
  have H := Lib.hid (And.intro hx (And.intro hy (And.intro hn (And.intro hN (And.intro hNy (And.intro hav hbv))))))
  clear nx hyx hx hy hc htop hpos hs1 hs2 hN hNy hav hbv
  rw [← hn]
  clear hn
  go_enter Tryz.func188, Tryz.ntmps188
  go_wp2_with fail
  refine (lead_any hdg hse).mono ?_
  rintro e wz ⟨rfl, hwz⟩
  obtain rfl := hwz
  clear hcell hdg hse i2 i3
  go_wp2_with fail
  have hb1 : Below w.heap.size w (w.alloc (.cells #[.int .i64 (n : Int)] 3)) := (Below.refl _ _).alloc (Nat.le_refl _) _
  have hc1 : (w.alloc (.cells #[.int .i64 (n : Int)] 3)).cell? ⟨w.heap.size, 0, none⟩ = some (.int .i64 (n : Int)) := by go_cell
  have hs1 : (w.alloc (.cells #[.int .i64 (n : Int)] 3)).heap.size = w.heap.size + 1 := by simp
  generalize w.alloc (.cells #[.int .i64 (n : Int)] 3) = w1 at *
  have hb2 : Below w1.heap.size w1 (w1.alloc (.cells #[.int .i64 (s : Int)] 3)) := (Below.refl _ _).alloc (Nat.le_refl _) _
  have hc2 : (w1.alloc (.cells #[.int .i64 (s : Int)] 3)).cell? ⟨w1.heap.size, 0, none⟩ = some (.int .i64 (s : Int)) := by go_cell
  have hc3 := (hb2.cell (p := ⟨w.heap.size, 0, none⟩) (by simp; omega)).trans hc1
  rw [hs1] at hc2
  have HB := Lib.hid (And.intro (hb1.trans (hb2.mono hb1.size)) (And.intro hc3 hc2))
  clear hb1 hb2 hc1 hc2 hc3
  generalize w1.alloc (.cells #[.int .i64 (s : Int)] 3) = w2 at *
  refine (at_any (m := m) (z := x) H.out.2.2.1 (by rw [H.out.2.2.1]; exact H.out.1.below HB.out.1 (Nat.le_refl _)) (by have := H.out.2.2.1; omega) (by omega) hs H.out.2.2.2.1 HB.out.2.1 HB.out.2.2).mono ?_
  rw [← H.out.2.2.2.2.2.1]
  rintro e w3 ⟨rfl, hd⟩
  have HD := Lib.hid hd
  clear hd
  go_wp2_with fail
  refine (at_any (m := m) (z := y) H.out.2.2.1 ((H.out.2.1.below HB.out.1 (Nat.le_refl _)).drawn HD.out) hl' (by omega) hs H.out.2.2.2.2.1 (((HD.out.below w2.heap.size).cell (by obtain ⟨k, hk⟩ := HD.out; have := HB.out.1.size; have h := World.block_lt_of_cell? w2 _ HB.out.2.1; exact h)).trans HB.out.2.1) (((HD.out.below w2.heap.size).cell (by exact World.block_lt_of_cell? w2 _ HB.out.2.2)).trans HB.out.2.2)).mono ?_
  rw [← H.out.2.2.2.2.2.2]
  rintro e w4 ⟨rfl, hd4⟩
  have HF := Lib.hid ((HB.out.1.trans ((HD.out.below w2.heap.size).mono HB.out.1.size)).trans (hd4.below w.heap.size))
  clear hd4
  go_wp2
  go_ret2
  refine ⟨s, ?_, hs, by rw [H.out.2.2.1]; exact H.out.2.2.2.1, HF.out⟩
  rw [← H.out.2.2.2.2.2.1, ← H.out.2.2.2.2.2.2]
  rfl
end Go.Proofs.YthnbocojjllfaaaGreatDoor
