/- Long division: divideLong. -/
import Derived.Test.YthnbocojjllfaaaGreatDoorLongA
namespace Go.Proofs.YthnbocojjllfaaaGreatDoor
open Go Go.RowKit

theorem put_high (Y i : Nat) : M.put (M.B ^ (i + 1) * (Y / M.B ^ (i + 1))) i (M.dg Y i) = M.B ^ i * (Y / M.B ^ i) := by
  have e : M.B ^ (i + 1) * (Y / M.B ^ (i + 1)) % M.B ^ i = 0 := by rw [M.pow_succ', Nat.mul_assoc]; exact Nat.mul_mod_right _ _
  unfold M.put
  rw [e, Nat.mul_div_cancel_left _ (M.pow_pos (i + 1)), Nat.zero_add, ← M.div_succ]
theorem lead_any {w : World} {f s : Nat} (hf : f ≤ 4294967295) (h : 32 - (Lib.bitLen f : Int) = (s : Int)) :
    Calls Tryz.prog 202 #[.int .u32 (f : Int)] w fun e w' => e = .returned (.int .i64 (s : Int)) ∧ w = w' := by
  refine (Tryz.bits_LeadingZeros32 (f : Int) w (by omega) (by omega)).mono ?_
  rintro e w' ⟨he, hw⟩
  refine ⟨?_, hw.symm⟩
  rw [he]
  exact congrArg (fun z => Ending.returned (Value.int .i64 z)) h

set_option maxHeartbeats 1600000 in
set_option maxRecDepth 100000 in
theorem divideLong_any {w : World} {A A' : Option Addr} {d m x y : Nat} (c c' : Nat) (hx : Limbs w A (m + 2 + d) x) (hy : Limbs w A' (m + 2) y) (ny : M.B ^ (m + 1) ≤ y) (hl : m + 2 + d ≤ 30000) :
    Calls Tryz.prog 181 #[.slice A (m + 2 + d) c, .slice A' (m + 2) c'] w (DivPost w x y) := by
  obtain ⟨b, off, rfl, hb, hc⟩ := hy.at_ (show m + 1 < m + 2 by omega)
  have hcell := hc (m + 1) (by omega)
  have hdg := M.dg_le y (m + 1)
  have htop := M.top_eq (n := m + 1) hy.1
  have hpos : 0 < M.dg y (m + 1) := by
    rw [htop]; exact (Nat.le_div_iff_mul_le (M.pow_pos _)).2 (by omega)
  obtain ⟨s, hs, hse, hs1, hs2⟩ := lead_norm hpos hdg
  obtain ⟨hD1, hD2⟩ := M.scale_norm htop hs1 hs2
  obtain ⟨D, hD⟩ : ∃ D, D = y * 2 ^ s := ⟨_, rfl⟩
  obtain ⟨Z, hZ⟩ : ∃ Z, Z = x * 2 ^ s := ⟨_, rfl⟩
  rw [← hD] at hD1 hD2
  have H := Lib.hid (And.intro hx (And.intro hy (And.intro hD (And.intro hZ (And.intro hD1 hD2)))))
  have hmk := make_nat (d + 1) (by omega)
  have hmk2 := hmk
  rw [show ((d + 1 : Nat) : Int) = (d : Int) + 1 by omega] at hmk
  rw [show ((d + 1 : Nat) : Int) = (m : Int) + 2 + (d : Int) - ((m : Int) + 2) + 1 by omega] at hmk2
  clear ny hx hy hc htop hpos hs1 hs2 hD hZ hD1 hD2
  go_enter Tryz.func181, Tryz.ntmps181
  go_wp2_with fail
  refine (lead_any hdg hse).mono ?_
  rintro e wz ⟨rfl, hwz⟩
  obtain rfl := hwz
  clear hcell hdg hse
  go_wp2_with fail
  refine (shiftedLeft_any c' H.out.2.1 (by omega) hs).mono ?_
  rw [← H.out.2.2.1]
  rintro e w1 ⟨rfl, hrd, hb1⟩
  have H1 := Lib.hid (And.intro hrd hb1)
  clear hrd hb1
  go_wp2_with fail
  refine (shiftedLeft_any c (H.out.1.below H1.out.2 (Nat.le_refl _)) (by omega) hs).mono ?_
  rw [← H.out.2.2.2.1]
  rintro e w2 ⟨rfl, hrr, hb2⟩
  have H2 := Lib.hid (And.intro hrr hb2)
  clear hrr hb2
  go_wp2_with fail
  have hrq := Row.new w2 (d + 1)
  have hb3 : Below w2.heap.size w2 (w2.alloc (.cells (madeCells #[Value.int .u32 0] (d + 1)) 160)) := (Below.refl _ _).alloc (Nat.le_refl _) _
  clear hmk hmk2
  generalize w2.alloc (.cells (madeCells #[Value.int .u32 0] (d + 1)) 160) = w3 at *
  have hgd : w.heap.size < w1.heap.size := H1.out.1.lt
  have hgr : w1.heap.size < w2.heap.size := H2.out.1.lt
  have hb13 : Below w1.heap.size w1 w3 := H2.out.2.trans (hb3.mono H2.out.2.size)
  have hrd3 : Row w3 w.heap.size (m + 2 + 1) D := H1.out.1.below hb13 H1.out.1.lt
  have hrr3 : Row w3 w1.heap.size (m + 2 + d + 1) Z := H2.out.1.below hb3 H2.out.1.lt
  have hb03 : Below w.heap.size w w3 := H1.out.2.trans (hb13.mono H1.out.2.size)
  have H3 := Lib.hid (And.intro hrd3 (And.intro hrr3 (And.intro hrq hb03)))
  have hsz : w.heap.size ≤ w.heap.size := Nat.le_refl _
  obtain ⟨S, hS⟩ : ∃ S, S = w.heap.size := ⟨_, rfl⟩
  obtain ⟨gd, hgd'⟩ : ∃ gd, gd = w.heap.size := ⟨_, rfl⟩
  clear hrq hb3 hb13 hrd3 hrr3 hb03 H1 H2
  generalize w1.heap.size = gr at *
  generalize w2.heap.size = gq at *
  go_loopw [9] (fun iv wr => ∃ k : Nat, k ≤ d + 1 ∧ iv = .int .i64 ((k : Int) - 1) ∧ Row wr w.heap.size (m + 2 + 1) D ∧ Row wr gr (m + 2 + d + 1) (Z % (D * M.B ^ k)) ∧ Row wr gq (d + 1) (M.B ^ k * (Z / D / M.B ^ k)) ∧ Below w.heap.size w wr) (fun iv _ => (intOf iv + 1).toNat)
  case atStart =>
    have hZD : Z < D * M.B ^ (d + 1) := by
      have h1 := H.out.1.1
      have h2 := two_pow_le hs
      have h3 : x * 2 ^ s < M.B ^ (m + 2 + d) * 2147483648 := Nat.lt_of_le_of_lt (Nat.mul_le_mul_left x h2) (Nat.mul_lt_mul_of_pos_right h1 (by decide))
      have h4 : 2147483648 * M.B ^ (m + 1) * M.B ^ (d + 1) ≤ D * M.B ^ (d + 1) := Nat.mul_le_mul_right _ H.out.2.2.2.2.2
      rw [Nat.mul_assoc, ← Nat.pow_add, show m + 1 + (d + 1) = m + 2 + d by omega, Nat.mul_comm] at h4
      rw [H.out.2.2.2.1]
      exact Nat.lt_of_lt_of_le h3 h4
    have e1 : Z % (D * M.B ^ (d + 1)) = Z := Nat.mod_eq_of_lt hZD
    have e2 : M.B ^ (d + 1) * (Z / D / M.B ^ (d + 1)) = 0 := by rw [Nat.div_div_eq_div_mul, Nat.div_eq_of_lt hZD, Nat.mul_zero]
    exact ⟨d + 1, Nat.le_refl _, by go_num, H3.out.1, by rw [e1]; exact H3.out.2.1, by rw [e2]; exact H3.out.2.2.1, H3.out.2.2.2⟩
  case round =>
    obtain ⟨k, hk, rfl, hrd, hrr, hrq, hb⟩ := hrel
    by_cases h0 : k = 0
    · subst h0
      have ez : M.B ^ 0 * (Z / D / M.B ^ 0) = x / y := by
        rw [Nat.pow_zero, Nat.div_one, Nat.one_mul, H.out.2.2.2.1, H.out.2.2.1, Nat.mul_div_mul_right _ _ (Nat.pow_pos (by decide))]
      have er : Z % (D * M.B ^ 0) = x % y * 2 ^ s := by
        rw [Nat.pow_zero, Nat.mul_one, H.out.2.2.2.1, H.out.2.2.1, Nat.mul_mod_mul_right]
      rw [ez] at hrq
      rw [er] at hrr
      have HQ := Lib.hid (And.intro hrq.limbs (And.intro hrr.limbs hb))
      have hrz : x % y * 2 ^ s / 2 ^ s = x % y := Nat.mul_div_cancel _ (Nat.pow_pos (by decide))
      have HZ := Lib.hid hrz
      clear hrd hrr hrq hb ez er hrz
      go_wp2_with fail
      refine (trim_any (n := x / y) HQ.out.1 (by omega) (by omega)).mono ?_
      rintro e w4 ⟨u, rfl, hu, rfl⟩
      have HU := Lib.hid hu
      clear hu
      go_wp2_with fail
      refine (shiftedRight_any (m + 2 + d + 1) HQ.out.2.1 (by omega) hs).mono ?_
      rw [HZ.out]
      rintro e w5 ⟨v, rfl, hv, hb5⟩
      have H5 := Lib.hid (And.intro (HU.out.below hb5 (Nat.le_refl _)) (And.intro hv (HQ.out.2.2.trans (hb5.mono HQ.out.2.2.size))))
      clear hv hb5
      go_wp2
      go_ret2
      exact ⟨_, _, rfl, H5.out.1, H5.out.2.1, H5.out.2.2⟩
    · obtain ⟨i, rfl⟩ : ∃ i, k = i + 1 := ⟨k - 1, by omega⟩
      rw [show (((i + 1 : Nat) : Int) - 1) = (i : Int) by omega]
      have HR := Lib.hid (And.intro hrd (And.intro hrr (And.intro hrq hb)))
      clear hrd hrr hrq hb
      obtain ⟨N, hN⟩ : ∃ N, N = Z % (D * M.B ^ (i + 1)) := ⟨_, rfl⟩
      have hD0 : 0 < D := by have := H.out.2.2.2.2.2; have := M.pow_pos (m + 1); omega
      have hWlt := M.long_window (Z := Z) (i := i) hD0
      have hdig := M.long_digit Z D i
      have hrest := M.long_rest Z D i
      rw [← hN] at hWlt hdig hrest
      have HN := Lib.hid (And.intro hN (And.intro hD0 (And.intro hWlt (And.intro hdig hrest))))
      have hrr1 : Row wr gr (m + 2 + d + 1) N := by rw [hN]; exact HR.out.2.1
      have hw2 : ∀ j, i + j < m + 2 + d + 1 → wr.cell? ⟨gr, i + j, none⟩ = some (.int .u32 (M.dg (N / M.B ^ i) j : Int)) := fun j hj => by
        rw [M.dg_div]; exact hrr1.cell hj
      have hd2 : ∀ j, j < m + 2 + 1 → wr.cell? ⟨w.heap.size, 0 + j, none⟩ = some (.int .u32 (M.dg D j : Int)) := fun j hj => by
        rw [Nat.zero_add]; exact HR.out.1.cell hj
      have hfac := M.window_facts (W := N / M.B ^ i) (m := m) H.out.2.2.2.2.1 hWlt rfl rfl rfl rfl rfl
      have hf2 : 2147483648 ≤ M.dg D (m + 1) := by
        rw [M.top_eq (n := m + 1) H.out.2.2.2.2.1]
        exact (Nat.le_div_iff_mul_le (M.pow_pos _)).2 H.out.2.2.2.2.2
      have hest := estimate_any (w := wr) (gx := gr) (ox := i) (gy := w.heap.size) (oy := 0) (n := m + 2) (m + 2 + d + 1 - i) (m + 2 + 1) (by omega) (by omega)
        (hw2 (m + 2) (by omega)) (hw2 (m + 1) (by omega)) (hw2 m (by omega)) (hd2 (m + 1) (by omega)) (hd2 m (by omega)) (M.dg_le _ _) (M.dg_le _ _) (M.dg_le _ _) (M.dg_le _ _) (M.dg_le _ _) hf2 hfac.2.2
      have HE := Lib.hid (And.intro hest (And.intro hfac hf2))
      have hi1 : i + (m + 2) + 1 - i = m + 2 + 1 := by omega
      clear hN hD0 hWlt hdig hrest hrr1 hw2 hd2 hfac hf2 hest
      go_wp2_with fail
      rw [hi1]
      refine HE.out.1.mono ?_
      rintro e w4 ⟨q, rfl, hqB, hqT, hmax, hdr⟩
      have hB := M.B_eq
      have hqq := M.round_est (W := N / M.B ^ i) (D := D) (m := m) HE.out.2.1.1.symm HE.out.2.1.2.1.symm hqB hqT hmax (by have := HE.out.2.2; have := Nat.mul_le_mul_right M.B (show 1 ≤ M.dg D (m + 1) by omega); omega) HN.out.2.1 HN.out.2.2.1
      rw [HN.out.2.2.2.1] at hqq
      have hq' : q ≤ 4294967295 := by omega
      have hrd4 : Row w4 w.heap.size (m + 2 + 1) D := by obtain ⟨k, rfl⟩ := hdr; exact HR.out.1
      have hrr4 : Row w4 gr (m + 2 + d + 1) N := by obtain ⟨k, rfl⟩ := hdr; rw [HN.out.1]; exact HR.out.2.1
      have hrq4 : Row w4 gq (d + 1) (M.B ^ (i + 1) * (Z / D / M.B ^ (i + 1))) := by obtain ⟨k, rfl⟩ := hdr; exact HR.out.2.2.1
      have hb4 : Below w.heap.size w w4 := HR.out.2.2.2.trans (hdr.below _)
      have hsub := subtractProduct_any (w := w4) (g := gr) (T := m + 2 + d + 1) (N := N) (o := i) (n := m + 2) (D := D) (q := q) (A' := some ⟨w.heap.size, 0, none⟩) (m + 2 + d + 1 - i) (m + 2 + 1) hrr4 (by omega) (hrd4.limbs.cut (by omega) H.out.2.2.2.2.1) (fun b off e => by injection e with e; injection e with e1; omega) (by omega) hq'
      have H4 := Lib.hid (And.intro hrd4 (And.intro hrq4 (And.intro hb4 (And.intro hsub hqq))))
      clear hB hqT hmax hdr hrd4 hrr4 hrq4 hb4 hsub hqq hqB
      go_wp2_with fail
      refine H4.out.2.2.2.1.mono ?_
      rintro e w5 ⟨b5, c5, N5, rfl, hb5, hr5, hd5, he5, hc5, hg5⟩
      have hNL : N < M.B ^ (i + (m + 2 + 1)) := by
        have h1 := Nat.mod_lt Z (Nat.mul_pos HN.out.2.1 (M.pow_pos (i + 1)))
        rw [← HN.out.1] at h1
        have h2 : D * M.B ^ (i + 1) ≤ M.B ^ (m + 1 + 1) * M.B ^ (i + 1) := Nat.mul_le_mul_right _ (Nat.le_of_lt H.out.2.2.2.2.1)
        rw [← Nat.pow_add, show m + 1 + 1 + (i + 1) = i + (m + 2 + 1) by omega] at h2
        omega
      have hDL : D % M.B ^ (m + 2 + 1) = D := M.mod_of_lt (Nat.lt_of_lt_of_le H.out.2.2.2.2.1 (M.pow_mono (by omega)))
      have hN5 : N5 < M.B ^ (i + (m + 2 + 1)) := by
        rw [Nat.div_eq_of_lt hNL] at hd5
        exact Nat.lt_of_div_eq_zero (M.pow_pos _) hd5
      rw [hDL] at he5 hc5
      rw [M.mod_of_lt hNL, M.mod_of_lt hN5, show D * q * M.B ^ i = q * (D * M.B ^ i) by rw [Nat.mul_comm D, Nat.mul_assoc]] at he5
      have hc0 : c5 = 0 := by
        have h1 : D * q < M.B ^ (m + 1 + 1) * M.B := Nat.mul_lt_mul'' H.out.2.2.2.2.1 (by have := M.B_eq; omega)
        rw [← M.pow_succ', show m + 1 + 1 + 1 = m + 2 + 1 by omega] at h1
        rcases Nat.eq_zero_or_pos c5 with h | h
        · exact h
        · have := Nat.le_mul_of_pos_left (M.B ^ (m + 2 + 1)) h; omega
      have hRlt : Z % (D * M.B ^ i) < D * M.B ^ i := Nat.mod_lt _ (Nat.mul_pos HN.out.2.1 (M.pow_pos i))
      obtain ⟨Q, hQ⟩ : ∃ Q, Q = M.dg (Z / D) i := ⟨_, rfl⟩
      have hrest := HN.out.2.2.2.2
      have hqq := H4.out.2.2.2.2
      rw [← hQ] at hrest hqq
      by_cases hhit : q = Q
      · subst hhit
        obtain ⟨rfl, _, hN5R⟩ := M.round_hit hrest he5 hN5
        have hrq5 : Row w5 gq (d + 1) (M.B ^ (i + 1) * (Z / D / M.B ^ (i + 1))) := H4.out.2.1.block (hg5.block gq H4.out.2.1.lt (fun e => by injection e with e; omega))
        have hrd5 : Row w5 w.heap.size (m + 2 + 1) D := H4.out.1.block (hg5.block _ H4.out.1.lt (fun e => by injection e with e; omega))
        have hb5' : Below w.heap.size w w5 := H4.out.2.2.1.grown hg5 H4.out.2.2.1.size (fun k e => by injection e with e; omega)
        have hcq := hrq5.cell (show i < d + 1 by omega)
        have hfq := hrq5.free i
        have H5 := Lib.hid (And.intro hN5R (And.intro hr5 (And.intro hg5 (And.intro hQ (And.intro hrq5 (And.intro hrd5 hb5'))))))
        clear hrq5 hrd5 hb5'
        clear hN5R hr5 hg5 hQ hrest hqq hRlt he5 hc5 hc0 hN5 hNL hDL hd5 hb5
        go_wp2
        go_roundw
        case rel =>
          refine ⟨i, by omega, rfl, H5.out.2.2.2.2.2.1.far (by show w.heap.size ≠ gq; omega) _, ?_, ?_, H5.out.2.2.2.2.2.2.setCell (by show w.heap.size ≤ gq; omega) _⟩
          · rw [← H5.out.1]; exact H5.out.2.1.far (by show gr ≠ gq; omega) _
          · rw [← put_high]
            exact set_off H5.out.2.2.2.2.1 (by omega) (M.dg_lt _ _) (by have h := H5.out.2.2.2.1; omega)
        case measure => simp [intOf]
      · obtain rfl : q = Q + 1 := by omega
        have hb1 : b5 = 1 := by
          rcases Nat.eq_zero_or_pos b5 with h | h
          · exfalso
            subst h hc0
            rw [Nat.add_mul] at he5
            omega
          · omega
        subst hb1
        have hrq5 : Row w5 gq (d + 1) (M.B ^ (i + 1) * (Z / D / M.B ^ (i + 1))) := H4.out.2.1.block (hg5.block gq H4.out.2.1.lt (fun e => by injection e with e; omega))
        have hrd5 : Row w5 w.heap.size (m + 2 + 1) D := H4.out.1.block (hg5.block _ H4.out.1.lt (fun e => by injection e with e; omega))
        have hb5' : Below w.heap.size w w5 := H4.out.2.2.1.grown hg5 H4.out.2.2.1.size (fun k e => by injection e with e; omega)
        have hadd := addBack_any (w := w5) (g := gr) (T := m + 2 + d + 1) (N := N5) (o := i) (n := m + 2) (D := D) (A' := some ⟨w.heap.size, 0, none⟩) (m + 2 + d + 1 - i) (m + 2 + 1) hr5 (by omega) (hrd5.limbs.cut (by omega) H.out.2.2.2.2.1) (fun b off e => by injection e with e; injection e with e1; omega) (by omega)
        have H5 := Lib.hid (And.intro hadd (And.intro hrq5 (And.intro hrd5 (And.intro hb5' (And.intro hQ (And.intro hrest (And.intro hRlt (And.intro he5 (And.intro hc0 (And.intro hN5 hDL))))))))))
        clear hadd hrq5 hrd5 hb5' hQ hrest hRlt he5 hc0 hN5 hDL hqq hd5 hc5 hNL hr5 hg5 hhit hb5
        go_wp2_with fail
        refine H5.out.1.mono ?_
        rintro e w6 ⟨rfl, N6, c6, hr6, hd6, he6, hg6⟩
        have hN6 : N6 < M.B ^ (i + (m + 2 + 1)) := by
          rw [Nat.div_eq_of_lt H5.out.2.2.2.2.2.2.2.2.2.1] at hd6
          exact Nat.lt_of_div_eq_zero (M.pow_pos _) hd6
        rw [M.mod_of_lt hN6, M.mod_of_lt H5.out.2.2.2.2.2.2.2.2.2.1, H5.out.2.2.2.2.2.2.2.2.2.2] at he6
        have hRB : Z % (D * M.B ^ i) < M.B ^ (i + (m + 2 + 1)) := by
          have h1 := H5.out.2.2.2.2.2.2.1
          have h2 : D * M.B ^ i ≤ M.B ^ (m + 1 + 1) * M.B ^ i := Nat.mul_le_mul_right _ (Nat.le_of_lt H.out.2.2.2.2.1)
          rw [← Nat.pow_add] at h2
          have h3 := M.pow_mono (show m + 1 + 1 + i ≤ i + (m + 2 + 1) by omega)
          omega
        have hres := (M.round_miss H5.out.2.2.2.2.2.1 H5.out.2.2.2.2.2.2.1 H5.out.2.2.2.2.2.2.2.1 H5.out.2.2.2.2.2.2.2.2.1 (Nat.le_refl 1) he6 hN6 hRB).2
        have hrq6 : Row w6 gq (d + 1) (M.B ^ (i + 1) * (Z / D / M.B ^ (i + 1))) := H5.out.2.1.block (hg6.block gq H5.out.2.1.lt (fun e => by injection e with e; omega))
        have hrd6 : Row w6 w.heap.size (m + 2 + 1) D := H5.out.2.2.1.block (hg6.block _ H5.out.2.2.1.lt (fun e => by injection e with e; omega))
        have hb6 : Below w.heap.size w w6 := H5.out.2.2.2.1.grown hg6 H5.out.2.2.2.1.size (fun k e => by injection e with e; omega)
        have hcq := hrq6.cell (show i < d + 1 by omega)
        have hfq := hrq6.free i
        have H6 := Lib.hid (And.intro hres (And.intro hr6 (And.intro hrq6 (And.intro hrd6 hb6))))
        clear hres hr6 hrq6 hrd6 hb6 hg6 hd6 he6 hN6 hRB
        go_wp2
        go_roundw
        case rel =>
          refine ⟨i, by omega, rfl, H6.out.2.2.2.1.far (by show w.heap.size ≠ gq; omega) _, ?_, ?_, H6.out.2.2.2.2.setCell (by show w.heap.size ≤ gq; omega) _⟩
          · rw [← H6.out.1]; exact H6.out.2.1.far (by show gr ≠ gq; omega) _
          · rw [← put_high]
            exact set_off H6.out.2.2.1 (by omega) (M.dg_lt _ _) (by have h := H5.out.2.2.2.2.1; omega)
        case measure => simp [intOf]
end Go.Proofs.YthnbocojjllfaaaGreatDoor
