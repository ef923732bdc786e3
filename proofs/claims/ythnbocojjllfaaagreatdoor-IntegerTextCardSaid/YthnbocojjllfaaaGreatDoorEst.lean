/- Long division: the estimate of a quotient digit. -/
import Derived.Test.YthnbocojjllfaaaGreatDoorDiv
import Derived.Test.YthnbocojjllfaaaGreatDoorKnuth
namespace Go.Proofs.YthnbocojjllfaaaGreatDoor
open Go Go.RowKit

set_option maxHeartbeats 1600000 in
set_option maxRecDepth 100000 in
theorem estimate_any {w : World} {gx ox gy oy n : Nat} (cx cy : Nat) {h1 h0 x2 f s : Nat} (hn : 2 ≤ n) (hn' : n ≤ 60000)
    (c1 : w.cell? ⟨gx, ox + n, none⟩ = some (.int .u32 (h1 : Int))) (c2 : w.cell? ⟨gx, ox + (n - 1), none⟩ = some (.int .u32 (h0 : Int))) (c3 : w.cell? ⟨gx, ox + (n - 2), none⟩ = some (.int .u32 (x2 : Int)))
    (d1 : w.cell? ⟨gy, oy + (n - 1), none⟩ = some (.int .u32 (f : Int))) (d2 : w.cell? ⟨gy, oy + (n - 2), none⟩ = some (.int .u32 (s : Int)))
    (b1 : h1 ≤ 4294967295) (b0 : h0 ≤ 4294967295) (b2 : x2 ≤ 4294967295) (bf : f ≤ 4294967295) (bs : s ≤ 4294967295) (hf : 2147483648 ≤ f) (hh : h1 * M.B + h0 ≤ f * M.B + s) :
    Calls Tryz.prog 204 #[.slice (some ⟨gx, ox, none⟩) (n + 1) cx, .slice (some ⟨gy, oy, none⟩) n cy] w fun e w' => ∃ q : Nat, e = .returned (.int .u64 (q : Int)) ∧ q < M.B ∧ q * (f * M.B + s) ≤ (h1 * M.B + h0) * M.B + x2 ∧
      (∀ Q, Q < M.B → Q * (f * M.B + s) ≤ (h1 * M.B + h0) * M.B + x2 → Q ≤ q) ∧ Drawn w w' := by
  obtain ⟨m, rfl⟩ : ∃ m, n = m + 2 := ⟨n - 2, by omega⟩
  rw [show m + 2 - 1 = m + 1 by omega] at c2 d1
  rw [show m + 2 - 2 = m by omega] at c3 d2
  have HH := Lib.hid hh
  clear hh
  go_enter Tryz.func204, Tryz.ntmps204
  go_wp2_with fail
  go_quiet (fail)
  have hdr : Drawn w (w.drewN nq) := (Drawn.refl w).drewN nq
  replace c3 : (w.drewN nq).cell? ⟨gx, ox + m, none⟩ = some (.int .u32 (x2 : Int)) := c3
  replace d1 : (w.drewN nq).cell? ⟨gy, oy + (m + 1), none⟩ = some (.int .u32 (f : Int)) := d1
  replace d2 : (w.drewN nq).cell? ⟨gy, oy + m, none⟩ = some (.int .u32 (s : Int)) := d2
  clear c1 c2
  generalize w.drewN nq = w2 at *
  rw [or_plain b1 b0]
  obtain ⟨hi, hhi⟩ : ∃ hi, hi = h1 * M.B + h0 := ⟨_, rfl⟩
  rw [← hhi]
  have HI := Lib.hid hhi
  clear hhi
  go_wp2_with fail
  go_quiet (fail)
  have hdr2 : Drawn w (w2.drewN nq) := hdr.drewN nq
  replace c3 : (w2.drewN nq).cell? ⟨gx, ox + m, none⟩ = some (.int .u32 (x2 : Int)) := c3
  clear d1 d2 hdr
  generalize w2.drewN nq = w3 at *
  have hf0 : (0 : Int) < (f : Int) := by omega
  have HF := Lib.hid hf
  clear hf
  have hfz : ((f : Int) == 0) = false := by rw [beq_eq_false_iff_ne]; omega
  go_wp2_with fail
  go_quiet (fail)
  have hdr : Drawn w (w3.drewN nq) := hdr2.drewN nq
  replace c3 : (w3.drewN nq).cell? ⟨gx, ox + m, none⟩ = some (.int .u32 (x2 : Int)) := c3
  clear hdr2
  generalize w3.drewN nq = w4 at *
  have hhi : hi ≤ 18446744073709551615 := by rw [HI.out, M.B_eq]; omega
  rw [show IntKind.u64.wrap ((hi : Int) / (f : Int)) = ((hi / f : Nat) : Int) by
        have h := Nat.div_le_self hi f
        rw [← Int.natCast_ediv]
        generalize hi / f = t at h ⊢
        rw [IntKind.wrap_u64]; omega,
      show ((hi : Int) % (f : Int)) = ((hi % f : Nat) : Int) from rfl]
  have hq0 : hi / f * f + hi % f = hi := by rw [Nat.mul_comm]; exact Nat.div_add_mod hi f
  have hr0 : hi % f < f := Nat.mod_lt _ (by omega)
  have hqm : hi / f ≤ hi := Nat.div_le_self hi f
  have hlow : ∀ Q, Q < M.B → Q * (f * M.B + s) ≤ hi * M.B + x2 → Q ≤ hi / f := by
    intro Q _ hQ
    refine (Nat.le_div_iff_mul_le (by omega)).2 ?_
    have e1 : Q * (f * M.B + s) = Q * f * M.B + Q * s := by rw [Nat.mul_add, Nat.mul_assoc]
    have h2 : Q * f * M.B < (hi + 1) * M.B := by rw [Nat.add_mul, Nat.one_mul]; have := M.B_eq; omega
    have := Nat.lt_of_mul_lt_mul_right h2
    omega
  obtain ⟨q0, hq⟩ : ∃ q0, q0 = hi / f := ⟨_, rfl⟩
  obtain ⟨r0, hr⟩ : ∃ r0, r0 = hi % f := ⟨_, rfl⟩
  rw [← hq, ← hr]
  rw [← hq] at hq0 hqm hlow
  rw [← hr] at hq0 hr0
  have HQ := Lib.hid (And.intro hq0 (And.intro hr0 (And.intro hlow hqm)))
  have hd4 := Lib.hid hdr
  clear hq hr hq0 hr0 hlow hqm hdr
  go_wp2_with fail
  go_loop [9, 10] (fun qv rv => ∃ q r : Nat, qv = .int .u64 (q : Int) ∧ rv = .int .u64 (r : Int) ∧ q ≤ 18446744073709551615 ∧ r ≤ 8589934590 ∧ q * f + r = hi ∧ ∀ Q, Q < M.B → Q * (f * M.B + s) ≤ hi * M.B + x2 → Q ≤ q) (fun qv _ => (intOf qv).toNat)
  case atStart => exact ⟨q0, r0, rfl, rfl, by have := HQ.out.2.2.2; omega, by have := HQ.out.2.1; omega, HQ.out.1, HQ.out.2.2.1⟩
  case round =>
    obtain ⟨q, r, rfl, rfl, hqb, hrb, hinv, hlow⟩ := hrel
    have HL := Lib.hid (And.intro hinv hlow)
    clear hinv hlow
    by_cases hr : r ≤ 4294967295
    · have hrz : ((r : Int) / 4294967296 == 0) = true := by rw [beq_iff_eq]; omega
      by_cases hq : q ≤ 4294967295
      · have hqz : ((q : Int) / 4294967296 != 0) = false := by rw [bne_eq_false_iff_eq]; omega
        have hor := or_plain hr b2
        obtain ⟨t, ht⟩ : ∃ t, t = r * M.B + x2 := ⟨_, rfl⟩
        rw [← ht] at hor
        have hpm := Nat.mul_le_mul hq bs
        obtain ⟨p, hp⟩ : ∃ p, p = q * s := ⟨_, rfl⟩
        rw [← hp] at hpm
        have hpi : (q : Int) * (s : Int) = (p : Int) := by rw [hp]; rfl
        have HT := Lib.hid (And.intro ht hp)
        clear ht hp
        by_cases hlt : t < p
        · have HS := Lib.hid (fun Q (h1 : Q < M.B) (h2 : Q * (f * M.B + s) ≤ hi * M.B + x2) => M.est_step rfl rfl HL.out.1 h2 (show r * M.B + x2 < q * s by rw [← HT.out.1, ← HT.out.2]; exact hlt))
          have hq1 : 1 ≤ q := by
            rcases Nat.eq_zero_or_pos q with h | h
            · exfalso
              have := HT.out.2
              rw [h, Nat.zero_mul] at this
              omega
            · exact h
          go_wp2
          go_round
          case rel =>
            refine ⟨q - 1, r + f, by go_num, by go_num, by omega, by omega, ?_, ?_⟩
            · obtain ⟨k, rfl⟩ : ∃ k, q = k + 1 := ⟨q - 1, by omega⟩
              have := HL.out.1
              rw [Nat.add_mul] at this
              rw [Nat.add_sub_cancel]; omega
            · intro Q h1 h2
              have := HS.out Q h1 h2
              omega
          case measure => simp [intOf]; omega
        · go_wp2
          go_ret
          refine ⟨q, rfl, by rw [M.B_eq]; omega, ?_, by rw [← HI.out]; exact HL.out.2, hd4.out⟩
          rw [← HI.out, ← HL.out.1, Nat.mul_add, Nat.add_mul, ← Nat.mul_assoc]
          have h1 := HT.out.1
          have h2 := HT.out.2
          omega
      · have hqz : ((q : Int) / 4294967296 != 0) = true := by rw [bne_iff_ne]; omega
        go_wp2
        go_round
        case rel =>
          refine ⟨q - 1, r + f, by go_num, by go_num, by omega, by omega, ?_, ?_⟩
          · obtain ⟨k, rfl⟩ : ∃ k, q = k + 1 := ⟨q - 1, by omega⟩
            have := HL.out.1
            rw [Nat.add_mul] at this
            rw [Nat.add_sub_cancel]; omega
          · intro Q h1 h2
            rw [M.B_eq] at h1
            omega
        case measure => simp [intOf]; omega
    · have hrz : ((r : Int) / 4294967296 == 0) = false := by rw [beq_eq_false_iff_ne]; omega
      have hB := M.B_eq
      have he := M.est_rest (x := x2) HL.out.1 (by rw [HI.out]; exact HH.out) (show s < M.B by omega) (show M.B ≤ r by omega)
      have HE := Lib.hid he
      clear he hB
      go_wp2
      go_ret
      refine ⟨q, rfl, HE.out.1, ?_, by rw [← HI.out]; exact HL.out.2, hd4.out⟩
      rw [← HI.out, ← HL.out.1, Nat.mul_add, Nat.add_mul, ← Nat.mul_assoc]
      have := HE.out.2
      omega
end Go.Proofs.YthnbocojjllfaaaGreatDoor
