/- The reference's Sign on texts of numbers. -/
import Derived.Test.YtfogkkanifnppaaGreatDoorRefV
import Derived.Test.YtfogkkanifnppaaGreatDoorLawOrder
namespace Go.Proofs.YtfogkkanifnppaaGreatDoor
open Go Go.RowKit

set_option maxHeartbeats 400000 in
set_option maxRecDepth 100000 in
theorem rsign_num {w : World} {s : ByteArray} {z : Int} {k : Nat} (h : Num s z k) (h1 : 1 ≤ k) (hk : k ≤ 400) :
    Calls Tryz.prog 51 #[.string s] w fun e w' => e = .returned (.int .i64 (sgn z)) ∧ w = w' := by
  obtain ⟨hp, hs, hv, hz, hm⟩ := num_facts h h1 hk
  clear h
  have HV := Lib.hid hv
  clear hv
  unfold sgn
  rcases Int.lt_trichotomy z 0 with h0 | h0 | h0
  · rw [decide_eq_false (by omega)] at hz
    rw [decide_eq_true h0] at hm
    go_enter Tryz.func51, Tryz.ntmps51
    go_wp2_with fail
    refine (rvalid_b s HV.out).mono ?_
    rintro e w1 ⟨rfl, rfl⟩
    go_wp2
    go_ret
    exact ⟨rfl, rfl⟩
  · subst h0
    rw [decide_eq_true rfl] at hz
    go_enter Tryz.func51, Tryz.ntmps51
    go_wp2_with fail
    refine (rvalid_b s HV.out).mono ?_
    rintro e w1 ⟨rfl, rfl⟩
    go_wp2
    go_ret
    exact ⟨rfl, rfl⟩
  · rw [decide_eq_false (by omega)] at hz
    rw [decide_eq_false (by omega)] at hm
    go_enter Tryz.func51, Tryz.ntmps51
    go_wp2_with fail
    refine (rvalid_b s HV.out).mono ?_
    rintro e w1 ⟨rfl, rfl⟩
    go_wp2
    go_ret
    exact ⟨rfl, rfl⟩
end Go.Proofs.YtfogkkanifnppaaGreatDoor
