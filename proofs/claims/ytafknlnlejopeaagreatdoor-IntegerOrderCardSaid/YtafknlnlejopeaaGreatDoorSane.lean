/- sane: the examples of the chapter. -/
import Derived.Test.YtafknlnlejopeaaGreatDoorGcdB
import Derived.Lib.LaidTab
namespace Go.Proofs.YtafknlnlejopeaaGreatDoor
open Go Go.RowKit

set_option maxHeartbeats 800000 in
set_option maxRecDepth 100000 in
theorem gcd_small_lt {w : World} {a b : Value} {x y : Nat} (ha : IsNat w a x) (hb : IsNat w b y) (hx : x < M.B) (hy : y < M.B) (hxy : x < y) (h0 : 0 < x) :
    Calls Tryz.prog 84 #[a, b] w fun e w' => ∃ v, e = .returned v ∧ IsNat w' v (Nat.gcd x y) ∧ Below w.heap.size w w' := by
  have hx1 : x < M.B ^ 1 := by rw [Nat.pow_one]; exact hx
  have hy1 : y < M.B ^ 1 := by rw [Nat.pow_one]; exact hy
  have hc := cmp_lt hxy
  have hyx : x ≤ y := Nat.le_of_lt hxy
  obtain ⟨A, l, c, rfl, hl, hm, hlk, hlc, hcm⟩ := ha.open_ hx1
  obtain ⟨A', l', c', rfl, hl', hm', hlk', _, _⟩ := hb.open_ hy1
  have hzl' := len_zero hm hl.1
  have hl1 : 0 < l := Nat.pos_of_ne_zero (fun e => by have := hzl'.1 e; omega)
  have hll : ((l : Int) == 0) = false := by rw [beq_eq_false_iff_ne]; omega
  have hl2 : ¬ (2 : Int) < l := by omega
  have H := Lib.hid (And.intro ha (And.intro hb (And.intro hl hyx)))
  clear ha hb hl hl' hm hm' hzl' hyx hxy
  go_enter Tryz.func84, Tryz.ntmps84
  go_wp2_with fail
  refine (compare_nat H.out.1 H.out.2.1 hx1 hy1 (by omega)).mono ?_
  rintro e w1 ⟨rfl, hd⟩
  have HD := Lib.hid hd
  clear hd
  go_wp2_with fail
  refine wp_loop_rounds 1 ?_
  rw [rounds_succ]
  go_wp2_with fail
  refine (divide_one (k := 1) (H.out.2.1.drawn HD.out) (H.out.1.drawn HD.out) hy1 hx (by omega) (by omega) H.out.2.2.2 h0).mono ?_
  rintro e w2 ⟨u, v, rfl, hu, hv, hb2⟩
  obtain ⟨A2, l2, c2, rfl, hl2', hm2, hlk2, _, _⟩ := hv.open_ (show y % x < M.B ^ 1 from Nat.lt_trans (Nat.mod_lt _ h0) hx1)
  have H2 := Lib.hid (And.intro (H.out.2.2.1.drawn HD.out |>.below hb2 (Nat.le_refl _)) (And.intro hl2' ((HD.out.below w.heap.size).trans (hb2.mono (HD.out.below w.heap.size).size))))
  clear hu hv hb2 hl2' hm2
  obtain ⟨r, hr⟩ : ∃ r, r = y % x := ⟨_, rfl⟩
  have HR := Lib.hid hr
  clear hr
  go_wp2_with fail
  refine (word_any c H2.out.1 (by omega)).mono ?_
  rintro e w3 ⟨rfl, rfl⟩
  go_wp2_with fail
  refine (word_any c2 H2.out.2.1 (by omega)).mono ?_
  rw [← HR.out]
  rintro e w3 ⟨rfl, rfl⟩
  go_wp2_with fail
  refine (gcd64_any x r (by have := Nat.le_mul_of_pos_right M.B M.B_pos; omega) (by have := Nat.mod_lt y h0; rw [← HR.out] at this; have := Nat.le_mul_of_pos_right M.B M.B_pos; omega)).mono ?_
  rintro e w4 ⟨rfl, hd4⟩
  obtain ⟨G, hG⟩ : ∃ G, G = Nat.gcd x r := ⟨_, rfl⟩
  rw [← hG]
  have hGB : G < M.B * M.B := by
    have h1 := Nat.gcd_le_left r h0
    have := Nat.le_mul_of_pos_right M.B M.B_pos
    omega
  have HG := Lib.hid (And.intro (show G = Nat.gcd x y by rw [hG, HR.out, Nat.gcd_comm x, ← Nat.gcd_rec]) hd4)
  clear hG hd4
  go_wp2_with fail
  refine (natural64_any hGB).mono ?_
  rintro e w5 ⟨v, rfl, hv, hb5⟩
  have H5 := Lib.hid (And.intro hv ((H2.out.2.2.trans (HG.out.2.below w.heap.size)).trans (hb5.mono (Nat.le_trans H2.out.2.2.size (HG.out.2.below 0).size))))
  clear hv hb5
  go_wp2
  go_ret
  refine ⟨_, rfl, ?_, H5.out.2⟩
  rw [← HG.out.1]
  exact H5.out.1

/-- The table that Itoa reads lies where the program's text lays it. -/
def Tab (w : World) : Prop := Lib.TabIs Tryz.prog w "internal/strconv.uint64pow10" .u64 Lib.pow10Tab ∧ 2 < w.heap.size
theorem tab_named : Tryz.prog.globalNamed "internal/strconv.uint64pow10" = some 2 := by kernel_rfl
theorem Tab.below {w w' : World} (h : Tab w) (hb : Below w.heap.size w w') : Tab w' :=
  ⟨var?_below hb tab_named h.2 h.1, Nat.lt_of_lt_of_le h.2 hb.size⟩
theorem make_any {w : World} (n : Int) (h0 : -9223372036854775808 ≤ n) (h1 : n ≤ 9223372036854775807) (ht : Tab w) :
    Calls Tryz.prog 18 #[.int .i64 n] w fun e w' => e = .returned (.string ⟨(Lib.itoa n).toArray⟩) ∧ Below w.heap.size w w' := by
  have H := Lib.hid (Tryz.strconv_Itoa n h0 h1 w ht.1)
  clear h0 h1 ht
  go_enter Tryz.func18, Tryz.ntmps18
  go_wp2_with fail
  refine H.out.mono ?_
  rintro e w' ⟨rfl, k, os, rfl⟩
  go_wp2
  go_ret
  refine ⟨rfl, rfl, rfl, rfl, ?_, ?_⟩
  · show w.heap.size ≤ (w.heap ++ os).size
    rw [Array.size_append]; omega
  · intro k hk
    show (w.heap ++ os)[k]? = w.heap[k]?
    rw [Array.getElem?_append_left hk]

theorem txt_m7 : Lib.itoa (-7) = [45, 55] := by decide +kernel
theorem txt_2 : Lib.itoa 2 = [50] := by decide +kernel
theorem txt_m2 : Lib.itoa (-2) = [45, 50] := by decide +kernel
theorem txt_m12 : Lib.itoa (-12) = [45, 49, 50] := by decide +kernel
theorem txt_18 : Lib.itoa 18 = [49, 56] := by decide +kernel
theorem txt_m4 : Lib.itoa (-4) = [45, 52] := by decide +kernel
theorem txt_1 : Lib.itoa 1 = [49] := by decide +kernel
theorem txt_4 : Lib.itoa 4 = [52] := by decide +kernel
theorem txt_6 : Lib.itoa 6 = [54] := by decide +kernel
theorem txt_m5 : Lib.itoa (-5) = [45, 53] := by decide +kernel
theorem nd_small {n : Nat} (h : n < 100) : Lib.nDigits n ≤ 400 := Nat.le_trans (nDigits_le (k := 2) (by omega) (by omega)) (by omega)
theorem small_B {n : Nat} (h : n < 100) : n < M.B := by rw [M.B_eq]; omega
theorem small_div (x y : Nat) (hx : x < 100) (hy : y < 100) (h0 : 0 < y) (hyx : y ≤ x) (w : World) (a b : Value) (ha : IsNat w a x) (hb : IsNat w b y) : Calls Tryz.prog 81 #[a, b] w (DivPost w x y) :=
  divide_one (k := 1) ha hb (by rw [Nat.pow_one]; exact small_B hx) (small_B hy) (by omega) (by omega) hyx h0
theorem sane_div1 {w : World} : Calls Tryz.prog 30 #[.string ⟨#[45, 55]⟩, .string ⟨#[50]⟩] w fun e w' => e = .returned (.tuple #[.string ⟨#[45, 52]⟩, .string ⟨#[49]⟩, .int .i64 0]) ∧ Below w.heap.size w w' := by
  have h := div_ok (w := w) (p := -7) (q := 2) ⟨#[45, 55]⟩ ⟨#[50]⟩ txt_m7.symm txt_2.symm (nd_small (by decide)) (nd_small (by decide)) (by decide) (small_div 7 2 (by decide) (by decide) (by decide) (by decide))
  rw [show (-7 : Int) / 2 = -4 by decide, show (-7 : Int) % 2 = 1 by decide, txt_m4, txt_1] at h
  exact h
theorem sane_div2 {w : World} : Calls Tryz.prog 30 #[.string ⟨#[45, 55]⟩, .string ⟨#[45, 50]⟩] w fun e w' => e = .returned (.tuple #[.string ⟨#[52]⟩, .string ⟨#[49]⟩, .int .i64 0]) ∧ Below w.heap.size w w' := by
  have h := div_ok (w := w) (p := -7) (q := -2) ⟨#[45, 55]⟩ ⟨#[45, 50]⟩ txt_m7.symm txt_m2.symm (nd_small (by decide)) (nd_small (by decide)) (by decide) (small_div 7 2 (by decide) (by decide) (by decide) (by decide))
  rw [show (-7 : Int) / (-2) = 4 by decide, show (-7 : Int) % (-2) = 1 by decide, txt_4, txt_1] at h
  exact h
theorem sane_gcd {w : World} : Calls Tryz.prog 32 #[.string ⟨#[45, 49, 50]⟩, .string ⟨#[49, 56]⟩] w fun e w' => e = .returned (.tuple #[.string ⟨#[54]⟩, .int .i64 0]) ∧ Below w.heap.size w w' := by
  have h := gcd_ok (w := w) (p := -12) (q := 18) ⟨#[45, 49, 50]⟩ ⟨#[49, 56]⟩ txt_m12.symm txt_18.symm (nd_small (by decide)) (nd_small (by decide)) (fun w a b ha hb => gcd_small_lt ha hb (small_B (by decide)) (small_B (by decide)) (by decide) (by decide))
  rw [show ((Nat.gcd (-12 : Int).natAbs (18 : Int).natAbs : Nat) : Int) = 6 by decide, txt_6] at h
  exact h
theorem sane_valid {w : World} : Calls Tryz.prog 16 #[.string ⟨#[45, 49, 50, 48]⟩] w fun e w' => e = .returned (.bool true) ∧ w = w' := by
  have h := valid_any (w := w) ⟨#[45, 49, 50, 48]⟩
  rw [show vld (⟨#[45, 49, 50, 48]⟩ : ByteArray).data.toList = true by decide +kernel] at h
  exact h
theorem sane_make {w : World} (ht : Tab w) : Calls Tryz.prog 18 #[.int .i64 (-5)] w fun e w' => e = .returned (.string ⟨#[45, 53]⟩) ∧ Below w.heap.size w w' := by
  have h := make_any (w := w) (-5) (by decide) (by decide) ht
  rw [txt_m5] at h
  exact h

set_option maxHeartbeats 1600000 in
set_option maxRecDepth 100000 in
theorem sane_any {w : World} (ht : Tab w) : Calls Tryz.prog 15 #[] w fun e w' => e = .returned (.bool true) ∧ Below w.heap.size w w' := by
  go_enter Tryz.func15, Tryz.ntmps15
  go_wp2_with fail
  refine sane_div1.mono ?_
  rintro e w1 ⟨rfl, hb1⟩
  have H1 := Lib.hid hb1
  clear hb1
  go_wp2_with fail
  refine sane_div2.mono ?_
  rintro e w2 ⟨rfl, hb2⟩
  have H2 := Lib.hid (H1.out.trans (hb2.mono H1.out.size))
  clear hb2
  go_wp2_with fail
  refine sane_gcd.mono ?_
  rintro e w3 ⟨rfl, hb3⟩
  have H3 := Lib.hid (H2.out.trans (hb3.mono H2.out.size))
  clear hb3
  go_wp2_with fail
  refine sane_valid.mono ?_
  rintro e w4 ⟨rfl, rfl⟩
  go_wp2_with fail
  refine (sane_make (ht.below H3.out)).mono ?_
  rintro e w4 ⟨rfl, hb4⟩
  have H4 := Lib.hid (H3.out.trans (hb4.mono H3.out.size))
  clear hb4
  go_wp2
  go_ret
  exact ⟨rfl, H4.out⟩
end Go.Proofs.YtafknlnlejopeaaGreatDoor
