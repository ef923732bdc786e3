/- Both packages' Add, Mul and Div of any two texts: one result for both. -/
import Derived.Test.YtfogkkanifnppaaGreatDoorDDiv
import Derived.Test.YtfogkkanifnppaaGreatDoorNum
import Derived.Test.YtfogkkanifnppaaGreatDoorLawOrder
namespace Go.Proofs.YtfogkkanifnppaaGreatDoor
open Go Go.RowKit

set_option maxHeartbeats 800000 in
theorem rdiv_bad {w : World} (s t : ByteArray) (h : (vld s.data.toList && vld t.data.toList) = false) :
    Calls Tryz.prog 85 #[.string s, .string t] w fun e w' => e = .returned (.tuple #[.string ⟨#[]⟩, .string ⟨#[]⟩, .int .i64 1]) ∧ Below w.heap.size w w' := by
  have H := Lib.hid h
  clear h
  go_enter Tryz.func85, Tryz.ntmps85
  go_wp2_with fail
  refine (both_bad s t H.out).mono ?_
  rintro e w1 ⟨rfl, hb1⟩
  have hB : Below w.heap.size w ((w1.alloc (.cells #[.bool false, .slice none 0 0] 64)).alloc (.cells #[.bool false, .slice none 0 0] 64)) := (hb1.alloc hb1.size _).alloc (Nat.le_trans hb1.size (by simp)) _
  have HB := Lib.hid hB
  clear hB hb1
  go_wp2
  go_ret3
  exact ⟨rfl, HB.out⟩
set_option maxHeartbeats 800000 in
theorem rdiv_zero {w : World} (s t : ByteArray) {p : Int} (hs : s.data.toList = Lib.itoa p) (ht : t.data.toList = Lib.itoa 0) (hp : Lib.nDigits p.natAbs ≤ 400) :
    Calls Tryz.prog 85 #[.string s, .string t] w fun e w' => e = .returned (.tuple #[.string ⟨#[]⟩, .string ⟨#[]⟩, .int .i64 4]) ∧ Below w.heap.size w w' := by
  have hq : Lib.nDigits (0 : Int).natAbs ≤ 400 := by decide +kernel
  have hQ := lt_dten _ hq
  obtain ⟨a, ha⟩ : ∃ a, a = decide (p < 0) := ⟨_, rfl⟩
  have H := Lib.hid (And.intro hs (And.intro ht (And.intro hp (And.intro hq (And.intro hQ ha)))))
  clear hs ht hp hq hQ ha
  go_enter Tryz.func85, Tryz.ntmps85
  go_wp2_with fail
  refine (both_ok s t H.out.1 H.out.2.1 H.out.2.2.1 H.out.2.2.2.1).mono ?_
  rw [← H.out.2.2.2.2.2, show decide ((0 : Int) < 0) = false from rfl]
  rintro e w1 ⟨u, v, rfl, ⟨A1, L1, c1, rfl, hu⟩, hv, hb1⟩
  obtain ⟨A2, L2, c2, rfl, hl2, hm2, hc2, hcm2, hL2⟩ := hv.open_ H.out.2.2.2.2.1
  have hL0 : L2 = 0 := (dlen_zero hm2 hl2.1).2 rfl
  subst hL0
  have hB : Below w.heap.size w ((w1.alloc (.cells #[.bool a, .slice A1 L1 c1] 64)).alloc (.cells #[.bool false, .slice A2 0 c2] 64)) := (hb1.alloc hb1.size _).alloc (Nat.le_trans hb1.size (by simp)) _
  have HB := Lib.hid hB
  clear hB hb1 hu hv hl2 hm2
  go_wp2
  go_ret3
  exact ⟨rfl, HB.out⟩
set_option maxHeartbeats 400000 in
theorem div_bad {w : World} (s t : ByteArray) (h : (vld s.data.toList && vld t.data.toList) = false) :
    Calls Tryz.prog 66 #[.string s, .string t] w fun e w' => e = .returned (.tuple #[.string ⟨#[]⟩, .string ⟨#[]⟩, .int .i64 1]) ∧ Below w.heap.size w w' := by
  have H := Lib.hid h
  clear h
  by_cases h1 : vld s.data.toList = true
  · have h2 : vld t.data.toList = false := by have := H.out; rw [h1, Bool.true_and] at this; exact this
    have HV := Lib.hid (And.intro h1 h2)
    clear h1 h2
    go_enter Tryz.func66, Tryz.ntmps66
    go_wp2_with fail
    refine (valid_any s).mono ?_
    rw [HV.out.1]
    rintro e w1 ⟨rfl, rfl⟩
    go_wp2_with fail
    refine (valid_any t).mono ?_
    rw [HV.out.2]
    rintro e w1 ⟨rfl, rfl⟩
    go_wp2
    go_ret3
    exact ⟨rfl, Below.refl _ _⟩
  · have h2 : vld s.data.toList = false := by simpa using h1
    have HV := Lib.hid h2
    clear h1 h2
    go_enter Tryz.func66, Tryz.ntmps66
    go_wp2_with fail
    refine (valid_any s).mono ?_
    rw [HV.out]
    rintro e w1 ⟨rfl, rfl⟩
    go_wp2
    go_ret3
    exact ⟨rfl, Below.refl _ _⟩

theorem both_cases (s t : ByteArray) : (vld s.data.toList && vld t.data.toList) = false ∨ ∃ p q, s.data.toList = Lib.itoa p ∧ t.data.toList = Lib.itoa q ∧ Lib.nDigits p.natAbs ≤ 400 ∧ Lib.nDigits q.natAbs ≤ 400 := by
  rcases Bool.eq_false_or_eq_true (vld s.data.toList && vld t.data.toList) with h | h
  · rw [Bool.and_eq_true] at h
    obtain ⟨p, hp, hp'⟩ := itoa_of_vld h.1
    obtain ⟨q, hq, hq'⟩ := itoa_of_vld h.2
    exact .inr ⟨p, q, hp, hq, hp', hq'⟩
  · exact .inl h
theorem give_two (z : Int) : ∃ r c, give z = .tuple #[.string r, .int .i64 c] := by
  unfold give
  split
  · exact ⟨_, _, rfl⟩
  · exact ⟨_, _, rfl⟩
theorem div_tot (s t : ByteArray) : ∃ q r c, (∀ w, Tab w → Calls Tryz.prog 66 #[.string s, .string t] w fun e w' => e = .returned (.tuple #[.string q, .string r, .int .i64 c]) ∧ Below w.heap.size w w') ∧
    (∀ w, Calls Tryz.prog 85 #[.string s, .string t] w fun e w' => e = .returned (.tuple #[.string q, .string r, .int .i64 c]) ∧ Below w.heap.size w w') := by
  rcases both_cases s t with h | ⟨p, q, hs, ht, hp, hq⟩
  · exact ⟨_, _, _, fun w _ => div_bad s t h, fun w => rdiv_bad s t h⟩
  · by_cases h0 : q = 0
    · subst h0
      exact ⟨_, _, _, fun w _ => div_zero s t hs (by rw [ht]; decide +kernel) hp, fun w => rdiv_zero s t hs ht hp⟩
    · exact ⟨_, _, _, fun w hw => div_ok hw s t hs ht hp hq h0, fun w => rdiv_ok s t hs ht hp hq h0⟩
end Go.Proofs.YtfogkkanifnppaaGreatDoor
