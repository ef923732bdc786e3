/- gcd64; gcd of small numbers; Gcd. -/
import Derived.Test.YtafknlnlejopeaaGreatDoorDivD
namespace Go.Proofs.YtafknlnlejopeaaGreatDoor
open Go Go.RowKit

set_option maxHeartbeats 400000 in
theorem gcd64_any {w : World} (a b : Nat) (ha : a < M.B * M.B) (hb : b < M.B * M.B) :
    Calls Tryz.prog 106 #[.int .u64 (a : Int), .int .u64 (b : Int)] w fun e w' => e = .returned (.int .u64 (Nat.gcd a b : Int)) ∧ Drawn w w' := by
  have H := Lib.hid (And.intro ha hb)
  clear ha hb
  go_enter Tryz.func106, Tryz.ntmps106
  go_wp2_with fail
  go_loopw [0, 1] (fun av bv wr => ∃ x y : Nat, av = .int .u64 (x : Int) ∧ bv = .int .u64 (y : Int) ∧ x < M.B * M.B ∧ y < M.B * M.B ∧ Nat.gcd x y = Nat.gcd a b ∧ Drawn w wr) (fun _ bv _ => (intOf bv).toNat)
  case atStart => exact ⟨a, b, rfl, rfl, H.out.1, H.out.2, rfl, Drawn.refl _⟩
  case round =>
    obtain ⟨x, y, rfl, rfl, hx, hy, hg, hd⟩ := hrel
    have HR := Lib.hid (And.intro hx (And.intro hy (And.intro hg hd)))
    clear hx hy hg hd
    by_cases h0 : y = 0
    · subst h0
      go_wp2
      go_ret
      refine ⟨?_, HR.out.2.2.2⟩
      rw [← HR.out.2.2.1, Nat.gcd_zero_right]
      rfl
    · have hy0 : 1 ≤ y := by omega
      have hne : ((y : Int) != 0) = true := by rw [bne_iff_ne]; omega
      have hz : ¬ (y : Int) = 0 := by omega
      clear h0
      go_wp2_with fail
      go_quiet (fail)
      go_wp2
      go_roundw
      case rel =>
        refine ⟨y, x % y, rfl, ?_, HR.out.2.1, ?_, ?_, HR.out.2.2.2.drewN _⟩
        · first | rfl | rw [tmod_nat]
        · exact Nat.lt_trans (Nat.mod_lt _ (by omega)) HR.out.2.1
        · rw [← HR.out.2.2.1, Nat.gcd_comm y, ← Nat.gcd_rec, Nat.gcd_comm]
      case measure =>
        simp only [intOf]
        have h1 := Int.emod_lt_of_pos (x : Int) (show (0 : Int) < y by omega)
        have h2 := Int.emod_nonneg (x : Int) (show (y : Int) ≠ 0 by omega)
        omega

set_option maxHeartbeats 800000 in
set_option maxRecDepth 100000 in
theorem gcd_small {w : World} {a b : Value} {x y : Nat} (ha : IsNat w a x) (hb : IsNat w b y) (hx : x < M.B) (hy : y < M.B) (hyx : y ≤ x) (h0 : 0 < y) :
    Calls Tryz.prog 84 #[a, b] w fun e w' => ∃ v, e = .returned v ∧ IsNat w' v (Nat.gcd x y) ∧ Below w.heap.size w w' := by
  have hx1 : x < M.B ^ 1 := by rw [Nat.pow_one]; exact hx
  have hy1 : y < M.B ^ 1 := by rw [Nat.pow_one]; exact hy
  have hc := cmp_ge hyx
  obtain ⟨A, l, c, rfl, hl, hm, hlk, hlc, hcm⟩ := ha.open_ hx1
  obtain ⟨A', l', c', rfl, hl', hm', hlk', _, _⟩ := hb.open_ hy1
  have hzl' := len_zero hm' hl'.1
  have hl1 : 0 < l' := by have : ¬ l' = 0 := fun e => by have := hzl'.1 e; omega
                          omega
  have hll : ((l' : Int) == 0) = false := by rw [beq_eq_false_iff_ne]; omega
  have hl2 : ¬ (2 : Int) < l' := by omega
  have H := Lib.hid (And.intro ha (And.intro hb (And.intro hl' hyx)))
  clear ha hb hl hl' hm hm' hzl' hyx
  go_enter Tryz.func84, Tryz.ntmps84
  go_wp2_with fail
  refine (compare_nat H.out.1 H.out.2.1 hx1 hy1 (by omega)).mono ?_
  rintro e w1 ⟨rfl, hd⟩
  have HD := Lib.hid hd
  clear hd
  go_wp2_with fail
  refine wp_loop_rounds 1 ?_
  rw [rounds_succ]
  go_wp2_with fail
  refine (divide_one (k := 1) (H.out.1.drawn HD.out) (H.out.2.1.drawn HD.out) hx1 hy (by omega) (by omega) H.out.2.2.2 h0).mono ?_
  rintro e w2 ⟨u, v, rfl, hu, hv, hb2⟩
  obtain ⟨A2, l2, c2, rfl, hl2', hm2, hlk2, _, _⟩ := hv.open_ (show x % y < M.B ^ 1 from Nat.lt_trans (Nat.mod_lt _ h0) hy1)
  have H2 := Lib.hid (And.intro (H.out.2.2.1.drawn HD.out |>.below hb2 (Nat.le_refl _)) (And.intro hl2' ((HD.out.below w.heap.size).trans (hb2.mono (HD.out.below w.heap.size).size))))
  clear hu hv hb2 hl2' hm2
  obtain ⟨r, hr⟩ : ∃ r, r = x % y := ⟨_, rfl⟩
  have HR := Lib.hid hr
  clear hr
  go_wp2_with fail
  refine (word_any c' H2.out.1 (by omega)).mono ?_
  rintro e w3 ⟨rfl, rfl⟩
  go_wp2_with fail
  refine (word_any c2 H2.out.2.1 (by omega)).mono ?_
  rw [← HR.out]
  rintro e w3 ⟨rfl, rfl⟩
  go_wp2_with fail
  refine (gcd64_any y r (by have := Nat.mul_le_mul hy (Nat.le_of_lt hy); have := Nat.le_mul_of_pos_right M.B M.B_pos; omega) (by have := Nat.mod_lt x h0; rw [← HR.out] at this; have := Nat.le_mul_of_pos_right M.B M.B_pos; omega)).mono ?_
  rintro e w4 ⟨rfl, hd4⟩
  obtain ⟨G, hG⟩ : ∃ G, G = Nat.gcd y r := ⟨_, rfl⟩
  rw [← hG]
  have hGB : G < M.B * M.B := by
    have h1 := Nat.gcd_le_left r h0
    have := Nat.le_mul_of_pos_right M.B M.B_pos
    omega
  have HG := Lib.hid (And.intro (show G = Nat.gcd x y by rw [hG, HR.out, Nat.gcd_comm y, ← Nat.gcd_rec, Nat.gcd_comm]) hd4)
  clear hG hd4
  go_wp2_with fail
  refine (natural64_any hGB).mono ?_
  rintro e w5 ⟨v, rfl, hv, hb5⟩
  have H5 := Lib.hid (And.intro hv ((H2.out.2.2.trans (HG.out.2.below w.heap.size)).trans (hb5.mono (Nat.le_trans H2.out.2.2.size (HG.out.2.below 0).size))))
  clear hv hb5
  go_wp2
  go_ret
  refine ⟨_, rfl, ?_, H5.out.2⟩
  rw [← HG.out.1]
  exact H5.out.1
end Go.Proofs.YtafknlnlejopeaaGreatDoor
