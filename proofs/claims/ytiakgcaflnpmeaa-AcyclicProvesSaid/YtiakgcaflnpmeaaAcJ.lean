/- The reference 05 takes a word for a word. -/
import Derived.Test.YtiakgcaflnpmeaaAcI
namespace Go.Proofs.Ytiakgcaflnpmeaa
open Go Go.RowKit

set_option maxHeartbeats 1600000 in
theorem word05 {s : ByteArray} {w : World} (hw : wordB s = true) : Calls Try.prog 63 #[.string s] w fun e w' => e = .returned (.bool true) ∧ w' = w := by
  have h0 : 0 < s.size := by
    apply Nat.pos_of_ne_zero
    intro h; rw [wordB_none h] at hw; exact absurd hw (by decide)
  have h1 : s.size ≤ 12 := by
    apply Nat.le_of_not_lt
    intro h; rw [wordB_long h] at hw; exact absurd hw (by decide)
  have h2 : letterB s[0] = true := by
    cases h : letterB s[0] with
    | true => rfl
    | false => rw [wordB_first h0 h] at hw; exact absurd hw (by decide)
  have h3 : ∀ j (h : j < s.size), wcharB s[j] = true := fun j hj => by
    cases h : wcharB s[j] with
    | true => rfl
    | false => rw [wordB_char hj h] at hw; exact absurd hw (by decide)
  have H := Lib.hid h3
  clear h3 hw
  unfold letterB at h2
  rw [Bool.and_eq_true, decide_eq_true_eq, decide_eq_true_eq] at h2
  obtain ⟨h2, h2b⟩ := h2
  have a1 : (97 : Int) ≤ (s[0].toNat : Int) := by omega
  have a2 : (s[0].toNat : Int) ≤ 122 := by omega
  clear h2 h2b
  have e0 : ((s.size : Int) == 0) = false := by rw [beq_eq_false_iff_ne]; omega
  have e1 : ¬ (12 : Int) < (s.size : Int) := by omega
  have e2 : (0 : Int) < (s.size : Int) := by omega
  go_enter Try.func63, Try.ntmps63
  go_wp2_with fail
  go_loop [3] (fun iv => ∃ i : Nat, i ≤ s.size ∧ iv = .int .i64 (i : Int)) (fun iv => s.size - (intOf iv).toNat)
  case atStart => exact ⟨0, Nat.zero_le _, rfl⟩
  case round =>
    obtain ⟨i, hi, rfl⟩ := hrel
    clear a1 a2
    by_cases hlt : i < s.size
    · have hc := H.out i hlt
      unfold wcharB letterB digitB at hc
      simp only [Bool.or_eq_true, Bool.and_eq_true, decide_eq_true_eq, beq_iff_eq] at hc
      rcases hc with (⟨hc, hc2⟩ | ⟨hc, hc2⟩) | hc
      · have b1 : (97 : Int) ≤ (s[i].toNat : Int) := by omega
        have b2 : (s[i].toNat : Int) ≤ 122 := by omega
        clear hc hc2
        go_wp2
        go_round
        case rel => exact ⟨i + 1, by omega, by go_num⟩
        case measure => simp [intOf]; omega
      · have b1 : ¬ (97 : Int) ≤ (s[i].toNat : Int) := by omega
        have b2 : (48 : Int) ≤ (s[i].toNat : Int) := by omega
        have b3 : (s[i].toNat : Int) ≤ 57 := by omega
        clear hc hc2
        go_wp2
        go_round
        case rel => exact ⟨i + 1, by omega, by go_num⟩
        case measure => simp [intOf]; omega
      · have b1 : ¬ (97 : Int) ≤ (s[i].toNat : Int) := by omega
        have b2 : ¬ (48 : Int) ≤ (s[i].toNat : Int) := by omega
        have b3 : ((s[i].toNat : Int) == 45) = true := by rw [beq_iff_eq]; omega
        clear hc
        go_wp2
        go_round
        case rel => exact ⟨i + 1, by omega, by go_num⟩
        case measure => simp [intOf]; omega
    · have ein : i = s.size := by omega
      subst ein
      go_wp2
      go_ret
      exact ⟨rfl, rfl⟩
end Go.Proofs.Ytiakgcaflnpmeaa
