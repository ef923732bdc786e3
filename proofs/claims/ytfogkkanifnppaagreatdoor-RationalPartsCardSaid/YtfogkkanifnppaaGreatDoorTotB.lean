/- Both packages' Valid, Sign, Compare, Gcd and Make of any texts: one result for both. -/
import Derived.Test.YtfogkkanifnppaaGreatDoorTot
import Derived.Test.YtfogkkanifnppaaGreatDoorDCmpB
import Derived.Test.YtfogkkanifnppaaGreatDoorRefS
namespace Go.Proofs.YtfogkkanifnppaaGreatDoor
open Go Go.RowKit

set_option maxHeartbeats 400000 in
theorem sign_bad {w : World} (s : ByteArray) (h : vld s.data.toList = false) : Calls Tryz.prog 78 #[.string s] w fun e w' => e = .returned (.int .i64 0) ∧ w = w' := by
  have HV := Lib.hid h
  clear h
  go_enter Tryz.func78, Tryz.ntmps78
  go_wp2_with fail
  refine (valid_c s HV.out).mono ?_
  rintro e w1 ⟨rfl, rfl⟩
  go_wp2
  go_ret
  exact ⟨rfl, rfl⟩
set_option maxHeartbeats 400000 in
theorem rsign_bad {w : World} (s : ByteArray) (h : vld s.data.toList = false) : Calls Tryz.prog 51 #[.string s] w fun e w' => e = .returned (.int .i64 0) ∧ w = w' := by
  have HV := Lib.hid h
  clear h
  go_enter Tryz.func51, Tryz.ntmps51
  go_wp2_with fail
  refine (rvalid_b s HV.out).mono ?_
  rintro e w1 ⟨rfl, rfl⟩
  go_wp2
  go_ret
  exact ⟨rfl, rfl⟩
set_option maxHeartbeats 800000 in
theorem compare_bad {w : World} (s t : ByteArray) (h : (vld s.data.toList && vld t.data.toList) = false) :
    Calls Tryz.prog 109 #[.string s, .string t] w fun e w' => e = .returned (.int .i64 0) ∧ Below w.heap.size w w' := by
  have H := Lib.hid h
  clear h
  by_cases h1 : vld s.data.toList = true
  · have h2 : vld t.data.toList = false := by have := H.out; rw [h1, Bool.true_and] at this; exact this
    have HV := Lib.hid (And.intro h1 h2)
    clear h1 h2
    go_enter Tryz.func109, Tryz.ntmps109
    go_wp2_with fail
    refine (valid_c s HV.out.1).mono ?_
    rintro e w1 ⟨rfl, rfl⟩
    go_wp2_with fail
    refine (valid_c t HV.out.2).mono ?_
    rintro e w1 ⟨rfl, rfl⟩
    go_wp2
    go_ret
    exact ⟨rfl, Below.refl _ _⟩
  · have h2 : vld s.data.toList = false := by simpa using h1
    have HV := Lib.hid h2
    clear h1 h2
    go_enter Tryz.func109, Tryz.ntmps109
    go_wp2_with fail
    refine (valid_c s HV.out).mono ?_
    rintro e w1 ⟨rfl, rfl⟩
    go_wp2
    go_ret
    exact ⟨rfl, Below.refl _ _⟩
theorem num_of {s : ByteArray} {z : Int} {k : Nat} (h : s.data.toList = Lib.itoa z) (hd : Lib.nDigits z.natAbs ≤ k) : Num s z k :=
  ⟨h, Nat.lt_of_lt_of_le (Lib.lt_pow_nDigits _) (Nat.pow_le_pow_right (by decide) hd)⟩
theorem valid_tot (s : ByteArray) : ∃ b, (∀ w, Calls Tryz.prog 77 #[.string s] w fun e w' => e = .returned (.bool b) ∧ w = w') ∧ (∀ w, Calls Tryz.prog 82 #[.string s] w fun e w' => e = .returned (.bool b) ∧ w = w') :=
  ⟨_, fun _ => valid_c s rfl, fun _ => rvalid_b s rfl⟩
theorem sign_tot (s : ByteArray) : ∃ c, (∀ w, Calls Tryz.prog 78 #[.string s] w fun e w' => e = .returned (.int .i64 c) ∧ w = w') ∧ (∀ w, Calls Tryz.prog 51 #[.string s] w fun e w' => e = .returned (.int .i64 c) ∧ w = w') := by
  rcases Bool.eq_false_or_eq_true (vld s.data.toList) with h | h
  · obtain ⟨z, hz, hd⟩ := itoa_of_vld h
    exact ⟨_, fun _ => sign_num (num_of hz hd) (by omega) (by omega), fun _ => rsign_num (num_of hz hd) (by omega) (by omega)⟩
  · exact ⟨_, fun _ => sign_bad s h, fun _ => rsign_bad s h⟩
theorem make_tot (n : Int) (h0 : -9223372036854775808 ≤ n) (h1 : n ≤ 9223372036854775807) : ∃ r, (∀ w, Tab w → Calls Tryz.prog 67 #[.int .i64 n] w fun e w' => e = .returned (.string r) ∧ Below w.heap.size w w') ∧
    (∀ w, Calls Tryz.prog 22 #[.int .i64 n] w fun e w' => e = .returned (.string r) ∧ Below w.heap.size w w') :=
  ⟨_, fun _ ht => imake_any n h0 h1 ht, fun _ => rmake_any n h0 h1⟩

end Go.Proofs.YtfogkkanifnppaaGreatDoor
