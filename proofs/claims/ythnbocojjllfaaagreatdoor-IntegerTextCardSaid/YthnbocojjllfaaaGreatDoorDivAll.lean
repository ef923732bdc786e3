/- divide, by any number. -/
import Derived.Test.YthnbocojjllfaaaGreatDoorLong
namespace Go.Proofs.YthnbocojjllfaaaGreatDoor
open Go Go.RowKit

set_option maxHeartbeats 800000 in
set_option maxRecDepth 100000 in
theorem divide_many {w : World} {a b : Value} {x y k : Nat} (ha : IsNat w a x) (hb : IsNat w b y) (hx : x < M.B ^ k) (hy : y < M.B ^ k) (hk : k ≤ 30000) (hyx : y ≤ x) (hyB : M.B ≤ y) :
    Calls Tryz.prog 157 #[a, b] w (DivPost w x y) := by
  have hc := cmp_ge hyx
  obtain ⟨A, l, c, rfl, hl, hm, hlk, _, _⟩ := ha.open_ hx
  obtain ⟨A', l', c', rfl, hl', hm', hlk', _, _⟩ := hb.open_ hy
  have h2 : 2 ≤ l' := by
    rcases Nat.lt_or_ge l' 2 with h | h
    · have h3 := M.pow_mono (show l' ≤ 1 by omega)
      rw [Nat.pow_one] at h3
      have := hl'.1
      omega
    · exact h
  have hll : l' ≤ l := by
    rcases Nat.lt_or_ge l l' with h | h
    · have h3 := M.pow_mono (show l ≤ l' - 1 by omega)
      have := hl.1
      rcases hm' with h4 | h4
      · omega
      · omega
    · exact h
  obtain ⟨m, rfl⟩ : ∃ m, l' = m + 2 := ⟨l' - 2, by omega⟩
  obtain ⟨d, rfl⟩ : ∃ d, l = m + 2 + d := ⟨l - (m + 2), by omega⟩
  have hny : M.B ^ (m + 1) ≤ y := by
    rcases hm' with h | h
    · omega
    · exact h
  have H := Lib.hid (And.intro ha (And.intro hb (And.intro hl (And.intro hl' hny))))
  clear ha hb hl hl' hm hm' hny hyB hyx
  go_enter Tryz.func157, Tryz.ntmps157
  go_wp2_with fail
  refine (compare_nat H.out.1 H.out.2.1 hx hy hk).mono ?_
  rintro e w1 ⟨rfl, hd⟩
  have HD := Lib.hid hd
  clear hd hx hy
  go_wp2_with fail
  refine (divideLong_any c c' (H.out.2.2.1.drawn HD.out) (H.out.2.2.2.1.drawn HD.out) H.out.2.2.2.2 (by omega)).mono ?_
  rintro e w2 ⟨u, v, rfl, hu, hv, hb2⟩
  have H2 := Lib.hid (And.intro hu (And.intro hv ((HD.out.below w.heap.size).trans (hb2.mono (HD.out.below w.heap.size).size))))
  clear hu hv hb2
  go_wp2
  go_ret2
  exact ⟨_, _, rfl, H2.out.1, H2.out.2.1, H2.out.2.2⟩
/-- What dividing gives, whatever the divisor. -/
theorem divide_all {w : World} {a b : Value} {x y k : Nat} (ha : IsNat w a x) (hb : IsNat w b y) (hx : x < M.B ^ k) (hy : y < M.B ^ k) (hk1 : 1 ≤ k) (hk : k ≤ 30000) (h0 : 0 < y) :
    Calls Tryz.prog 157 #[a, b] w (DivPost w x y) := by
  rcases Nat.lt_or_ge x y with h | h
  · exact divide_lt ha hb hx hy hk h
  · rcases Nat.lt_or_ge y M.B with h1 | h1
    · exact divide_one ha hb hx h1 hk1 hk h h0
    · exact divide_many ha hb hx hy hk h h1
end Go.Proofs.YthnbocojjllfaaaGreatDoor
