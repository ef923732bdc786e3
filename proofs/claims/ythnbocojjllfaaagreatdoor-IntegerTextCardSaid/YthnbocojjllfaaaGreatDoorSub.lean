/- Long division: the divisor added back; the product subtracted. -/
import Derived.Test.YthnbocojjllfaaaGreatDoorEst
namespace Go.Proofs.YthnbocojjllfaaaGreatDoor
open Go Go.RowKit

/-- Limbs in another block than the one that is written. -/
theorem Limbs.grown {w w' : World} {A : Option Addr} {len n g : Nat} (h : Limbs w A len n) (hne : ∀ b off, A = some ⟨b, off, none⟩ → b ≠ g) (hg : w.grownBy w' (some g)) : Limbs w' A len n :=
  ⟨h.1, fun hl => by
    obtain ⟨b, off, e, hb, hh⟩ := h.2 hl
    refine ⟨b, off, e, Nat.lt_of_lt_of_le hb hg.size, fun i hi => ?_⟩
    rw [World.cell?_of_block (w := w) (hg.block b hb (fun e2 => by injection e2 with e2; exact hne b off e e2))]
    exact hh i hi⟩

theorem grown_drewN {a w : World} {r : Option Nat} (h : a.grownBy w r) (k : Nat) : a.grownBy (w.drewN k) r := ⟨h.os, h.tape, h.output, h.size, fun j hj hn => h.block j hj hn⟩
theorem dg_same {N u i : Nat} (h : N / M.B ^ i = u / M.B ^ i) : M.dg N i = M.dg u i := by unfold M.dg; rw [h]
theorem div_next {N u i : Nat} (h : N / M.B ^ i = u / M.B ^ i) : N / M.B ^ (i + 1) = u / M.B ^ (i + 1) := by
  rw [M.pow_succ', ← Nat.div_div_eq_div_mul, h, Nat.div_div_eq_div_mul]
theorem and_low {t : Nat} (h : t ≤ 18446744073709551615) : bits .and .u64 (t : Int) 4294967295 = ((t % M.B : Nat) : Int) := by
  rw [show (4294967295 : Int) = ((4294967295 : Nat) : Int) by rfl, u64_and_nat _ _ (by omega) (by omega), show (4294967295 : Nat) = 2 ^ 32 - 1 by rfl, Nat.and_two_pow_sub_one_eq_mod, M.B_eq]
/-- A digit less a limb and a borrow: the digit that is left, and the next borrow. -/
theorem sub_one {x low b : Nat} (hx : x ≤ 4294967295) (hl : low ≤ 4294967295) (hb : b ≤ 1) : ∃ d b' : Nat, d < M.B ∧ b' ≤ 1 ∧ x + b' * M.B = d + low + b ∧
    IntKind.u64.wrap (IntKind.u64.wrap ((x : Int) - (low : Int)) - (b : Int)) % 4294967296 = (d : Int) ∧ IntKind.u64.wrap (IntKind.u64.wrap ((x : Int) - (low : Int)) - (b : Int)) / 9223372036854775808 = (b' : Int) := by
  rw [sub_mod, sub_div _ _ _ (by omega) (by omega) (by omega) (by omega) (by omega) (by omega), M.B_eq]
  by_cases h : (x : Int) - low - b < 0
  · rw [if_pos h]
    exact ⟨x + 4294967296 - low - b, 1, by omega, by omega, by omega, by omega, rfl⟩
  · rw [if_neg h]
    exact ⟨x - low - b, 0, by omega, by omega, by omega, by omega, rfl⟩
theorem set_off {w : World} {g T N k d : Nat} {v : Int} (h : Row w g T N) (hk : k < T) (hd : d < M.B) (hv : v = (d : Int)) : Row (w.setCell ⟨g, k, none⟩ (.int .u32 v)) g T (M.put N k d) := by
  subst hv
  exact h.set hk hd
set_option maxHeartbeats 1600000 in
set_option maxRecDepth 100000 in
theorem addBack_any {w : World} {g T N o n D : Nat} {A' : Option Addr} (cx cy : Nat) (hr : Row w g T N) (hT : o + (n + 1) ≤ T) (hy : Limbs w A' n D) (hne : ∀ b off, A' = some ⟨b, off, none⟩ → b ≠ g) (hn : n ≤ 60000) :
    Calls Tryz.prog 206 #[.slice (some ⟨g, o, none⟩) (n + 1) cx, .slice A' n cy] w fun e w' => e = .returned (.tuple #[]) ∧ ∃ N' c, Row w' g T N' ∧ N' / M.B ^ (o + (n + 1)) = N / M.B ^ (o + (n + 1)) ∧ N' % M.B ^ (o + (n + 1)) + c * M.B ^ (o + (n + 1)) = N % M.B ^ (o + (n + 1)) + D % M.B ^ (n + 1) * M.B ^ o ∧ w.grownBy w' (some g) := by
  have H := Lib.hid (And.intro hr (And.intro hy hne))
  clear hr hy hne
  go_enter Tryz.func206, Tryz.ntmps206
  go_wp2_with fail
  go_loopw [4, 8] (fun cv iv wr => ∃ j c Nr : Nat, j ≤ n + 1 ∧ iv = .int .i64 (j : Int) ∧ cv = .int .u64 (c : Int) ∧ c ≤ 1 ∧ Row wr g T Nr ∧ Nr / M.B ^ (o + j) = N / M.B ^ (o + j) ∧ Nr % M.B ^ (o + j) + c * M.B ^ (o + j) = N % M.B ^ (o + j) + D % M.B ^ j * M.B ^ o ∧ w.grownBy wr (some g)) (fun _ iv _ => n + 1 - (intOf iv).toNat)
  case atStart => exact ⟨0, 0, N, by omega, rfl, rfl, by omega, H.out.1, rfl, by simp [Nat.mod_one], only_refl _ _⟩
  case round =>
    obtain ⟨j, c, Nr, hj, rfl, rfl, hc, hr, hd, he, hg⟩ := hrel
    have hlim := H.out.2.1.grown H.out.2.2 hg
    have HE := Lib.hid (And.intro hd (And.intro he hg))
    clear hd he hg
    by_cases hlt : j < n + 1
    · have hcell := hr.cell (show o + j < T by omega)
      have hfree := hr.free (o + j)
      have hdx := M.dg_le Nr (o + j)
      have hdy := M.dg_le D j
      have HR := Lib.hid hr
      clear hr
      go_wp2_with fail
      go_quiet ((go_at_call 169; exact Calls.quiet_left (limb_any cy j (by assumption) (by omega) (by omega))))
      have hrow : Row (wr.drewN nq) g T Nr := HR.out.drewN nq
      have hgr : w.grownBy (wr.drewN nq) (some g) := grown_drewN HE.out.2.2 nq
      have hcell2 := hrow.cell (show o + j < T by omega)
      have hfree2 := hrow.free (o + j)
      have HW := Lib.hid (And.intro hrow hgr)
      clear hlim hcell hfree hrow hgr
      generalize wr.drewN nq = w2 at *
      go_wp2
      go_roundw
      case rel =>
        have hs := dg_same HE.out.1
        refine ⟨j + 1, (c + (M.dg N (o + j) + M.dg D j)) / M.B, M.put Nr (o + j) ((c + (M.dg N (o + j) + M.dg D j)) % M.B), by omega, by go_num, ?_, ?_, set_off HW.out.1 (by omega) (Nat.mod_lt _ M.B_pos) ?_, ?_, M.add_step HE.out.2.1, only_set HW.out.2 _ _⟩
        · rw [← cast_div, hs]; push_cast; rfl
        · rw [hs] at hdx
          have hB := M.B_eq
          exact Nat.le_of_lt_succ ((Nat.div_lt_iff_lt_mul M.B_pos).2 (by omega))
        · rw [← cast_mod, hs]; push_cast; rfl
        · rw [show o + (j + 1) = o + j + 1 by omega, M.put_div_succ _ _ (Nat.mod_lt _ M.B_pos)]
          exact div_next HE.out.1
      case measure => simp [intOf]; omega
    · obtain rfl : j = n + 1 := by omega
      have HR := Lib.hid hr
      clear hr
      go_wp2
      go_end0
      exact ⟨rfl, Nr, c, HR.out, HE.out.1, HE.out.2.1, HE.out.2.2⟩

set_option maxHeartbeats 1600000 in
set_option maxRecDepth 100000 in
theorem subtractProduct_any {w : World} {g T N o n D q : Nat} {A' : Option Addr} (cx cy : Nat) (hr : Row w g T N) (hT : o + (n + 1) ≤ T) (hy : Limbs w A' n D) (hne : ∀ b off, A' = some ⟨b, off, none⟩ → b ≠ g) (hn : n ≤ 60000) (hq : q ≤ 4294967295) :
    Calls Tryz.prog 205 #[.slice (some ⟨g, o, none⟩) (n + 1) cx, .slice A' n cy, .int .u64 (q : Int)] w fun e w' => ∃ b c N' : Nat, e = .returned (.bool (decide (b ≠ 0))) ∧ b ≤ 1 ∧ Row w' g T N' ∧ N' / M.B ^ (o + (n + 1)) = N / M.B ^ (o + (n + 1)) ∧
      N' % M.B ^ (o + (n + 1)) + D % M.B ^ (n + 1) * q * M.B ^ o = N % M.B ^ (o + (n + 1)) + (b + c) * M.B ^ (o + (n + 1)) ∧ c * M.B ^ (n + 1) ≤ D % M.B ^ (n + 1) * q ∧ w.grownBy w' (some g) := by
  have H := Lib.hid (And.intro hr (And.intro hy hne))
  clear hr hy hne
  go_enter Tryz.func205, Tryz.ntmps205
  go_wp2_with fail
  go_loopw [7, 8, 13] (fun cv bv iv wr => ∃ j c b Nr : Nat, j ≤ n + 1 ∧ iv = .int .i64 (j : Int) ∧ cv = .int .u64 (c : Int) ∧ bv = .int .u64 (b : Int) ∧ c ≤ 4294967295 ∧ b ≤ 1 ∧ Row wr g T Nr ∧ Nr / M.B ^ (o + j) = N / M.B ^ (o + j) ∧
    Nr % M.B ^ (o + j) + D % M.B ^ j * q * M.B ^ o = N % M.B ^ (o + j) + (b + c) * M.B ^ (o + j) ∧ c * M.B ^ j ≤ D % M.B ^ j * q ∧ w.grownBy wr (some g)) (fun _ _ iv _ => n + 1 - (intOf iv).toNat)
  case atStart => exact ⟨0, 0, 0, N, by omega, rfl, rfl, rfl, by omega, by omega, H.out.1, rfl, by simp [Nat.mod_one], by simp, only_refl _ _⟩
  case round =>
    obtain ⟨j, c, b, Nr, hj, rfl, rfl, rfl, hc, hb, hr, hd, he, hcb, hg⟩ := hrel
    have hlim := H.out.2.1.grown H.out.2.2 hg
    have HE := Lib.hid (And.intro hd (And.intro he (And.intro hcb hg)))
    clear hd he hcb hg
    by_cases hlt : j < n + 1
    · have hcell := hr.cell (show o + j < T by omega)
      have hfree := hr.free (o + j)
      have hdx := M.dg_le Nr (o + j)
      have hdy := M.dg_le D j
      have HR := Lib.hid hr
      clear hr
      have hpm := Nat.mul_le_mul hdy hq
      obtain ⟨x, hx⟩ : ∃ x, x = M.dg Nr (o + j) := ⟨_, rfl⟩
      rw [← hx] at hcell hdx
      obtain ⟨p, hp⟩ : ∃ p, p = M.dg D j * q := ⟨_, rfl⟩
      have hpi : (M.dg D j : Int) * (q : Int) = (p : Int) := by rw [hp]; rfl
      rw [← hp] at hpm
      have HP := Lib.hid (And.intro hx hp)
      clear hx hp
      go_wp2_with (go_at_call 169; refine (limb_any _ _ (by assumption) (by omega) (by omega)).mono ?_; rintro e w' ⟨rfl, rfl⟩)
      obtain ⟨t, ht⟩ : ∃ t, t = c + p := ⟨_, rfl⟩
      rw [show ((c : Int) + (p : Int)) = (t : Int) by rw [ht]; rfl, and_low (by omega)]
      have hlow := Nat.mod_lt t M.B_pos
      obtain ⟨d, b', hd, hb', hsum, e1, e2⟩ := sub_one (x := x) (low := t % M.B) (b := b) hdx (by have := M.B_eq; omega) hb
      rw [e1, e2, cast_div]
      go_roundw
      case rel =>
        have hs := dg_same HE.out.1
        have hx : x = M.dg N (o + j) := HP.out.1.trans hs
        have hc' : c + M.dg D j * q = t % M.B + t / M.B * M.B := by rw [← HP.out.2, ← ht, Nat.mul_comm (t / M.B)]; exact (Nat.mod_add_div t M.B).symm
        have hcn := M.sub_carry HE.out.2.2.1 hc'
        refine ⟨j + 1, t / M.B, b', M.put Nr (o + j) d, by omega, by go_num, rfl, rfl, ?_, hb', set_off HR.out (by omega) hd rfl, ?_, M.sub_step HE.out.2.1 hd hc' (by rw [← hx]; exact hsum), hcn, only_set HE.out.2.2.2 _ _⟩
        · have hB := M.B_eq
          exact Nat.le_of_lt_succ ((Nat.div_lt_iff_lt_mul M.B_pos).2 (by omega))
        · rw [show o + (j + 1) = o + j + 1 by omega, M.put_div_succ _ _ hd]
          exact div_next HE.out.1
      case measure => simp [intOf]; omega
    · obtain rfl : j = n + 1 := by omega
      have HR := Lib.hid hr
      clear hr
      by_cases h0 : b = 0
      · subst h0
        go_wp2
        go_ret
        exact ⟨0, c, Nr, rfl, by omega, HR.out, HE.out.1, HE.out.2.1, HE.out.2.2.1, HE.out.2.2.2⟩
      · obtain rfl : b = 1 := by omega
        go_wp2
        go_ret
        exact ⟨1, c, Nr, rfl, by omega, HR.out, HE.out.1, HE.out.2.1, HE.out.2.2.1, HE.out.2.2.2⟩
end Go.Proofs.YthnbocojjllfaaaGreatDoor
