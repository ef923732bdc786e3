/- limb, trim, natural64, word: the small methods of wide.natural. -/
import Derived.Test.YthnbocojjllfaaaGreatDoorMem
import Derived.Test.YthnbocojjllfaaaGreatDoorChecked
import Derived.BigQuiet
import Derived.Deep.QuietTactic
namespace Go.Proofs.YthnbocojjllfaaaGreatDoor
open Go Go.RowKit

theorem limb_in (b off len cap i x : Nat) (w : World) (hi : i < len) (_hl : len ≤ 4611686018427387904) (hx : x ≤ 4294967295) (hc : w.cell? ⟨b, off + i, none⟩ = some (.int .u32 (x : Int))) :
    Calls Tryz.prog 169 #[.slice (some ⟨b, off, none⟩) len cap, .int .i64 (i : Int)] w fun e w' => e = .returned (.int .u64 (x : Int)) ∧ w = w' := by
  go_enter Tryz.func169, Tryz.ntmps169
  go_wp2
  go_ret
  exact ⟨rfl, rfl⟩
theorem limb_out (A : Option Addr) (len cap i : Nat) (w : World) (hi : len ≤ i) (_hl : i ≤ 4611686018427387904) :
    Calls Tryz.prog 169 #[.slice A len cap, .int .i64 (i : Int)] w fun e w' => e = .returned (.int .u64 0) ∧ w = w' := by
  go_enter Tryz.func169, Tryz.ntmps169
  go_wp2
  go_ret
  exact ⟨rfl, rfl⟩
theorem limb_any {w : World} {A : Option Addr} {len n : Nat} (cap i : Nat) (h : Limbs w A len n) (hl : len ≤ 4611686018427387904) (hi : i ≤ 4611686018427387904) :
    Calls Tryz.prog 169 #[.slice A len cap, .int .i64 (i : Int)] w fun e w' => e = .returned (.int .u64 (M.dg n i : Int)) ∧ w = w' := by
  rcases Nat.lt_or_ge i len with hlt | hge
  · obtain ⟨b, off, rfl, _, hc⟩ := h.at_ hlt
    exact limb_in b off len cap i _ w hlt hl (M.dg_le _ _) (hc i hlt)
  · rw [h.big hge]
    exact limb_out A len cap i w hge hi

theorem top_zero {n k : Nat} (h : n < M.B ^ (k + 1)) (h0 : M.dg n k = 0) : n < M.B ^ k := by
  unfold M.dg at h0
  rw [M.pow_succ', Nat.mul_comm] at h
  have h1 : n / M.B ^ k < M.B := Nat.div_lt_of_lt_mul (by rw [Nat.mul_comm]; exact h)
  rw [Nat.mod_eq_of_lt h1] at h0
  rcases Nat.lt_or_ge n (M.B ^ k) with h2 | h2
  · exact h2
  · have := Nat.div_pos h2 (M.pow_pos k); omega
theorem top_pos {n k : Nat} (h0 : M.dg n k ≠ 0) : M.B ^ k ≤ n := by
  rcases Nat.lt_or_ge n (M.B ^ k) with h2 | h2
  · exact absurd (M.dg_of_lt h2) h0
  · exact h2
def lenOf : Value → Nat | .slice _ n _ => n | _ => 0

theorem trim_core {w : World} {A : Option Addr} {len n cap : Nat} (h : Limbs w A len n) (hl : len ≤ cap) (hcap : cap ≤ 9223372036854775807) :
    Calls Tryz.prog 170 #[.slice A len cap] w fun e w' => ∃ k, e = .returned (.slice A k cap) ∧ k ≤ len ∧ n < M.B ^ k ∧ (k = 0 ∨ M.B ^ (k - 1) ≤ n) ∧ w = w' := by
  go_enter Tryz.func170, Tryz.ntmps170
  go_wp2
  go_loop [0] (fun s => ∃ k, k ≤ len ∧ s = .slice A k cap ∧ n < M.B ^ k) (fun s => lenOf s)
  case atStart => exact ⟨len, Nat.le_refl _, rfl, h.1⟩
  case round =>
    obtain ⟨k, hk, rfl, hn⟩ := hrel
    by_cases h0 : k = 0
    · subst h0
      clear h
      go_wp2
      go_ret
      exact ⟨0, rfl, Nat.zero_le _, hn, .inl rfl, rfl⟩
    · obtain ⟨j, rfl⟩ : ∃ j, k = j + 1 := ⟨k - 1, by omega⟩
      obtain ⟨b, off, rfl, hb, hc⟩ := h.at_ (show j < len by omega)
      have hj := hc j (by omega)
      have H := Lib.hid h; clear h hc
      by_cases hz : M.dg n j = 0
      · have hn' := Lib.hid (top_zero hn hz)
        rw [hz] at hj
        clear hz
        go_wp2
        go_round
        case rel => exact ⟨j, by omega, rfl, hn'.out⟩
        case measure => simp [lenOf]
      · have hp := Lib.hid (top_pos hz)
        have hle := M.dg_le n j
        have hpos : 1 ≤ M.dg n j := by omega
        generalize M.dg n j = x at *
        have Hn := Lib.hid hn
        clear hn hz h0
        go_wp2
        go_ret
        exact ⟨j + 1, rfl, by omega, Hn.out, .inr (by simpa using hp.out), rfl⟩
theorem trim_any {w : World} {A : Option Addr} {len n cap : Nat} (h : Limbs w A len n) (hl : len ≤ cap) (hcap : cap ≤ 9223372036854775807) :
    Calls Tryz.prog 170 #[.slice A len cap] w fun e w' => ∃ v, e = .returned v ∧ IsNat w v n ∧ w = w' := by
  refine (trim_core h hl hcap).mono ?_
  rintro e w' ⟨k, rfl, hk, hn, hm, rfl⟩
  exact ⟨_, rfl, ⟨A, k, cap, rfl, h.cut hk hn, hm, by omega, hcap⟩, rfl⟩
end Go.Proofs.YthnbocojjllfaaaGreatDoor
