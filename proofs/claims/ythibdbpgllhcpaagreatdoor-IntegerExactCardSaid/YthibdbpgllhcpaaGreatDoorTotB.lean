/- Both packages' Valid, Sign, Compare, Gcd and Make of any texts: one result for both. -/
import Derived.Test.YthibdbpgllhcpaaGreatDoorTot
import Derived.Test.YthibdbpgllhcpaaGreatDoorDCmpB
import Derived.Test.YthibdbpgllhcpaaGreatDoorRefS
namespace Go.Proofs.YthibdbpgllhcpaaGreatDoor
open Go Go.RowKit

set_option maxHeartbeats 400000 in
theorem sign_bad {w : World} (s : ByteArray) (h : vld s.data.toList = false) : Calls Tryz.prog 23 #[.string s] w fun e w' => e = .returned (.int .i64 0) ∧ w = w' := by
  have HV := Lib.hid h
  clear h
  go_enter Tryz.func23, Tryz.ntmps23
  go_wp2_with fail
  refine (valid_c s HV.out).mono ?_
  rintro e w1 ⟨rfl, rfl⟩
  go_wp2
  go_ret
  exact ⟨rfl, rfl⟩
set_option maxHeartbeats 400000 in
theorem rsign_bad {w : World} (s : ByteArray) (h : vld s.data.toList = false) : Calls Tryz.prog 24 #[.string s] w fun e w' => e = .returned (.int .i64 0) ∧ w = w' := by
  have HV := Lib.hid h
  clear h
  go_enter Tryz.func24, Tryz.ntmps24
  go_wp2_with fail
  refine (rvalid_b s HV.out).mono ?_
  rintro e w1 ⟨rfl, rfl⟩
  go_wp2
  go_ret
  exact ⟨rfl, rfl⟩
set_option maxHeartbeats 800000 in
theorem compare_bad {w : World} (s t : ByteArray) (h : (vld s.data.toList && vld t.data.toList) = false) :
    Calls Tryz.prog 25 #[.string s, .string t] w fun e w' => e = .returned (.int .i64 0) ∧ Below w.heap.size w w' := by
  have H := Lib.hid h
  clear h
  by_cases h1 : vld s.data.toList = true
  · have h2 : vld t.data.toList = false := by have := H.out; rw [h1, Bool.true_and] at this; exact this
    have HV := Lib.hid (And.intro h1 h2)
    clear h1 h2
    go_enter Tryz.func25, Tryz.ntmps25
    go_wp2_with fail
    refine (valid_c s HV.out.1).mono ?_
    rintro e w1 ⟨rfl, rfl⟩
    go_wp2_with fail
    refine (valid_c t HV.out.2).mono ?_
    rintro e w1 ⟨rfl, rfl⟩
    go_wp2
    go_ret
    exact ⟨rfl, Below.refl _ _⟩
  · have h2 : vld s.data.toList = false := by simpa using h1
    have HV := Lib.hid h2
    clear h1 h2
    go_enter Tryz.func25, Tryz.ntmps25
    go_wp2_with fail
    refine (valid_c s HV.out).mono ?_
    rintro e w1 ⟨rfl, rfl⟩
    go_wp2
    go_ret
    exact ⟨rfl, Below.refl _ _⟩
set_option maxHeartbeats 400000 in
theorem gcd_bad {w : World} (s t : ByteArray) (h : (vld s.data.toList && vld t.data.toList) = false) :
    Calls Tryz.prog 32 #[.string s, .string t] w fun e w' => e = .returned (.tuple #[.string ⟨#[]⟩, .int .i64 1]) ∧ Below w.heap.size w w' := by
  have H := Lib.hid h
  clear h
  go_enter Tryz.func32, Tryz.ntmps32
  go_wp2_with fail
  refine (combine_bad s t H.out).mono ?_
  rintro e w' ⟨rfl, hb⟩
  go_wp2
  go_ret2
  exact ⟨rfl, hb⟩

theorem num_of {s : ByteArray} {z : Int} {k : Nat} (h : s.data.toList = Lib.itoa z) (hd : Lib.nDigits z.natAbs ≤ k) : Num s z k :=
  ⟨h, Nat.lt_of_lt_of_le (Lib.lt_pow_nDigits _) (Nat.pow_le_pow_right (by decide) hd)⟩
theorem valid_tot (s : ByteArray) : ∃ b, (∀ w, Calls Tryz.prog 16 #[.string s] w fun e w' => e = .returned (.bool b) ∧ w = w') ∧ (∀ w, Calls Tryz.prog 22 #[.string s] w fun e w' => e = .returned (.bool b) ∧ w = w') :=
  ⟨_, fun _ => valid_c s rfl, fun _ => rvalid_b s rfl⟩
theorem sign_tot (s : ByteArray) : ∃ c, (∀ w, Calls Tryz.prog 23 #[.string s] w fun e w' => e = .returned (.int .i64 c) ∧ w = w') ∧ (∀ w, Calls Tryz.prog 24 #[.string s] w fun e w' => e = .returned (.int .i64 c) ∧ w = w') := by
  rcases Bool.eq_false_or_eq_true (vld s.data.toList) with h | h
  · obtain ⟨z, hz, hd⟩ := itoa_of_vld h
    exact ⟨_, fun _ => sign_num (num_of hz hd) (by omega) (by omega), fun _ => rsign_num (num_of hz hd) (by omega) (by omega)⟩
  · exact ⟨_, fun _ => sign_bad s h, fun _ => rsign_bad s h⟩
theorem compare_tot (s t : ByteArray) : ∃ c, (∀ w, Calls Tryz.prog 25 #[.string s, .string t] w fun e w' => e = .returned (.int .i64 c) ∧ Below w.heap.size w w') ∧ (∀ w, Calls Tryz.prog 26 #[.string s, .string t] w fun e w' => e = .returned (.int .i64 c) ∧ Below w.heap.size w w') := by
  rcases both_cases s t with h | ⟨p, q, hs, ht, hp, hq⟩
  · exact ⟨_, fun _ => compare_bad s t h, fun _ => rcompare_bad s t h⟩
  · exact ⟨_, fun _ => compare_num (num_of hs hp) (num_of ht hq) (by omega) (by omega), fun _ => rcompare_ok s t hs ht hp hq⟩
theorem gcd_tot (s t : ByteArray) : ∃ r c, (∀ w, Tab w → Calls Tryz.prog 32 #[.string s, .string t] w fun e w' => e = .returned (.tuple #[.string r, .int .i64 c]) ∧ Below w.heap.size w w') ∧
    (∀ w, Calls Tryz.prog 33 #[.string s, .string t] w fun e w' => e = .returned (.tuple #[.string r, .int .i64 c]) ∧ Below w.heap.size w w') := by
  rcases both_cases s t with h | ⟨p, q, hs, ht, hp, hq⟩
  · exact ⟨_, _, fun w _ => gcd_bad s t h, fun w => rgcd_bad s t h⟩
  · exact ⟨_, _, fun w hw => gcd_ok s t hs ht hp hq hw, fun w => rgcd_ok s t hs ht hp hq⟩
theorem make_tot (n : Int) (h0 : -9223372036854775808 ≤ n) (h1 : n ≤ 9223372036854775807) : ∃ r, (∀ w, Tab w → Calls Tryz.prog 18 #[.int .i64 n] w fun e w' => e = .returned (.string r) ∧ Below w.heap.size w w') ∧
    (∀ w, Calls Tryz.prog 19 #[.int .i64 n] w fun e w' => e = .returned (.string r) ∧ Below w.heap.size w w') :=
  ⟨_, fun _ ht => imake_any n h0 h1 ht, fun _ => rmake_any n h0 h1⟩

end Go.Proofs.YthibdbpgllhcpaaGreatDoor
