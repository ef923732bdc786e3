/- bits.Mul64: the two words of a product. -/
import Derived.Test.YthnbocojjllfaaaGreatDoorSub
namespace Go.Proofs.YthnbocojjllfaaaGreatDoor
open Go Go.RowKit

theorem mul_halves {x0 x1 y0 y1 w0l w0h t tl th w1 w1l w1h β : Nat} (e0 : x0 * y0 = w0l + β * w0h) (et : x1 * y0 + w0h = t) (es : t = tl + β * th) (ew : tl + x0 * y1 = w1) (ev : w1 = w1l + β * w1h) :
    (x1 * β + x0) * (y1 * β + y0) = (x1 * y1 + th + w1h) * (β * β) + (w1l * β + w0l) := by grind

theorem and_low' {t : Nat} (h : t ≤ 18446744073709551615) : bits .and .u64 (t : Int) 4294967295 = ((t % 4294967296 : Nat) : Int) := by rw [and_low h, M.B_eq]
theorem cast_div' (t : Nat) : ((t : Int) / 4294967296) = ((t / 4294967296 : Nat) : Int) := rfl
set_option maxHeartbeats 800000 in
theorem mul64_any {w : World} (x y : Nat) (hx : x ≤ 18446744073709551615) (hy : y ≤ 18446744073709551615) :
    Calls Tryz.prog 143 #[.int .u64 (x : Int), .int .u64 (y : Int)] w fun e w' => e = .returned (.tuple #[.int .u64 ((x * y / 18446744073709551616 : Nat) : Int), .int .u64 ((x * y % 18446744073709551616 : Nat) : Int)]) ∧ w = w' := by
  obtain ⟨x0, hx0⟩ : ∃ x0, x0 = x % 4294967296 := ⟨_, rfl⟩
  obtain ⟨x1, hx1⟩ : ∃ x1, x1 = x / 4294967296 := ⟨_, rfl⟩
  obtain ⟨y0, hy0⟩ : ∃ y0, y0 = y % 4294967296 := ⟨_, rfl⟩
  obtain ⟨y1, hy1⟩ : ∃ y1, y1 = y / 4294967296 := ⟨_, rfl⟩
  have bx0 : x0 ≤ 4294967295 := by omega
  have bx1 : x1 ≤ 4294967295 := by omega
  have by0 : y0 ≤ 4294967295 := by omega
  have by1 : y1 ≤ 4294967295 := by omega
  have hxe : x = x1 * 4294967296 + x0 := by omega
  have hye : y = y1 * 4294967296 + y0 := by omega
  have p0 := Nat.mul_le_mul bx0 by0
  have p1 := Nat.mul_le_mul bx1 by0
  have p2 := Nat.mul_le_mul bx0 by1
  have p3 := Nat.mul_le_mul bx1 by1
  obtain ⟨w0, hw0⟩ : ∃ w0, w0 = x0 * y0 := ⟨_, rfl⟩
  obtain ⟨m1, hm1⟩ : ∃ m1, m1 = x1 * y0 := ⟨_, rfl⟩
  obtain ⟨m2, hm2⟩ : ∃ m2, m2 = x0 * y1 := ⟨_, rfl⟩
  obtain ⟨m3, hm3⟩ : ∃ m3, m3 = x1 * y1 := ⟨_, rfl⟩
  have i0 : (x0 : Int) * (y0 : Int) = (w0 : Int) := by rw [hw0]; rfl
  have i1 : (x1 : Int) * (y0 : Int) = (m1 : Int) := by rw [hm1]; rfl
  have i2 : (x0 : Int) * (y1 : Int) = (m2 : Int) := by rw [hm2]; rfl
  have i3 : (x1 : Int) * (y1 : Int) = (m3 : Int) := by rw [hm3]; rfl
  rw [← hw0] at p0
  rw [← hm1] at p1
  rw [← hm2] at p2
  rw [← hm3] at p3
  obtain ⟨w0h, hw0h⟩ : ∃ w0h, w0h = w0 / 4294967296 := ⟨_, rfl⟩
  obtain ⟨t, ht⟩ : ∃ t, t = m1 + w0h := ⟨_, rfl⟩
  have bt : t ≤ 18446744073709551615 := by omega
  obtain ⟨tl, htl⟩ : ∃ tl, tl = t % 4294967296 := ⟨_, rfl⟩
  obtain ⟨th, hth⟩ : ∃ th, th = t / 4294967296 := ⟨_, rfl⟩
  obtain ⟨w1, hw1⟩ : ∃ w1, w1 = tl + m2 := ⟨_, rfl⟩
  have bw1 : w1 ≤ 18446744073709551615 := by omega
  obtain ⟨w1h, hw1h⟩ : ∃ w1h, w1h = w1 / 4294967296 := ⟨_, rfl⟩
  have jt : (m1 : Int) + (w0h : Int) = (t : Int) := by omega
  have jw : (tl : Int) + (m2 : Int) = (w1 : Int) := by omega
  have key := mul_halves (x0 := x0) (x1 := x1) (y0 := y0) (y1 := y1) (w0l := w0 % 4294967296) (w0h := w0h) (t := t) (tl := tl) (th := th) (w1 := w1) (w1l := w1 % 4294967296) (w1h := w1h) (β := 4294967296)
    (by rw [← hw0]; omega) (by rw [← hm1, ht]) (by omega) (by rw [← hm2, hw1]) (by omega)
  rw [← hxe, ← hye, ← hm3] at key
  have bhi : m3 + th + w1h ≤ 18446744073709551615 := by omega
  have b2 : m3 + th ≤ 18446744073709551615 := by omega
  have hhi : x * y / 18446744073709551616 = m3 + th + w1h := by omega
  obtain ⟨lo, hlo2⟩ : ∃ lo, lo = x * y % 18446744073709551616 := ⟨_, rfl⟩
  have il : IntKind.u64.wrap ((x : Int) * (y : Int)) = (lo : Int) := by
    rw [IntKind.wrap_u64, hlo2, ← Int.natCast_mul]
    generalize x * y = z
    omega
  have ax0 := and_low' hx
  have ay0 := and_low' hy
  have ax1 := cast_div' x
  have ay1 := cast_div' y
  have at0 := and_low' bt
  have at1 := cast_div' t
  have j0 := cast_div' w0
  have j1 := cast_div' w1
  rw [← hx0] at ax0
  rw [← hy0] at ay0
  rw [← hx1] at ax1
  rw [← hy1] at ay1
  rw [← hw0h] at j0
  rw [← htl] at at0
  rw [← hth] at at1
  rw [← hw1h] at j1
  have HE := Lib.hid (And.intro hhi hlo2)
  clear hhi hlo2 key hx0 hx1 hy0 hy1 hxe hye hw0 hm1 hm2 hm3 hw0h ht htl hth hw1 hw1h
  rw [HE.out.1, ← HE.out.2]
  go_enter Tryz.func143, Tryz.ntmps143
  go_wp2
  go_ret2
  exact ⟨rfl, rfl⟩
end Go.Proofs.YthnbocojjllfaaaGreatDoor
