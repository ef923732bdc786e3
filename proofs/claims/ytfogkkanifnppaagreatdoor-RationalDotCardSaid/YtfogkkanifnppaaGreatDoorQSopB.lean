/- Package rational's Sum and Dot; the reference's light. -/
import Derived.Test.YtfogkkanifnppaaGreatDoorQSop
namespace Go.Proofs.YtfogkkanifnppaaGreatDoor
open Go Go.RowKit

/-- A slice of n texts. -/
def Lst1 (w : World) (A : Option Addr) (n : Nat) (txt : Nat → ByteArray) : Prop :=
  0 < n → ∃ b off, A = some ⟨b, off, none⟩ ∧ b < w.heap.size ∧ ∀ i, i < n → w.cell? ⟨b, off + i, none⟩ = some (.string (txt i))
theorem Lst1.below {w w' : World} {A : Option Addr} {n : Nat} {txt : Nat → ByteArray} (h : Lst1 w A n txt) (hb : Below w.heap.size w w') : Lst1 w' A n txt := by
  intro h0
  obtain ⟨b, off, e, hl, hc⟩ := h h0
  exact ⟨b, off, e, Nat.lt_of_lt_of_le hl hb.size, fun i hi => (hb.cell hl).trans (hc i hi)⟩
theorem lsts_one {w : World} {A : Option Addr} {n c : Nat} {txt : Nat → Nat → ByteArray} (h : Lst1 w A n (txt 0)) : Lsts (w.alloc (.cells #[.slice A n c] 44)) w.heap.size 1 n txt := by
  refine ⟨_, heap_alloc_new w _, fun k hk => ?_⟩
  obtain rfl : k = 0 := by omega
  exact ⟨A, c, rfl, h.below ((Below.refl _ _).alloc (Nat.le_refl _) _)⟩
theorem lsts_two {w : World} {A A' : Option Addr} {n c c' : Nat} {txt : Nat → Nat → ByteArray} (h : Lst1 w A n (txt 0)) (h' : Lst1 w A' n (txt 1)) : Lsts (w.alloc (.cells #[.slice A n c, .slice A' n c'] 44)) w.heap.size 2 n txt := by
  refine ⟨_, heap_alloc_new w _, fun k hk => ?_⟩
  match k, hk with
  | 0, _ => exact ⟨A, c, rfl, h.below ((Below.refl _ _).alloc (Nat.le_refl _) _)⟩
  | 1, _ => exact ⟨A', c', rfl, h'.below ((Below.refl _ _).alloc (Nat.le_refl _) _)⟩
/-- The texts of m lists, and what they read as. -/
def Reads_ (m n : Nat) (txt : Nat → Nat → ByteArray) (val : Nat → Nat → Option Rat) : Prop := ∀ k i, k < m → i < n → Short (txt k i) ∧ Rd (txt k i) (val k i)
set_option linter.unusedSimpArgs false in
set_option maxHeartbeats 6400000 in
set_option maxRecDepth 100000 in
theorem qsum_any {w : World} {A : Option Addr} {n c : Nat} {txt : Nat → Nat → ByteArray} {val : Nat → Nat → Option Rat} (he : Env w) (hn : n ≤ 100000) (h : Lst1 w A n (txt 0)) (hv : Reads_ 1 n txt val) :
    Calls Tryz.prog 47 #[.slice A n c] w fun e w' => ∃ v, e = .returned v ∧ SumRes 1 n val v ∧ Below w.heap.size w w' := by
  have hA := (Below.refl w.heap.size w).alloc (Nat.le_refl _) (.cells #[.slice A n c] 44)
  have H := Lib.hid (And.intro (he.below hA) (And.intro (lsts_one (c := c) h) (And.intro hv hA)))
  clear he h hv hA
  go_enter Tryz.func47, Tryz.ntmps47
  go_wp2_with fail
  refine (sop_any (m := 1) H.out.1 (by omega) (by omega) hn H.out.2.1 H.out.2.2.1).mono ?_
  rintro e w1 ⟨v, rfl, hr, hb⟩
  obtain ⟨o, co, rfl⟩ := hr.two
  have H1 := Lib.hid (And.intro hr (H.out.2.2.2.trans (hb.mono H.out.2.2.2.size)))
  clear hr hb
  go_wp2
  go_ret2
  exact ⟨_, rfl, H1.out⟩
set_option linter.unusedSimpArgs false in
set_option maxHeartbeats 6400000 in
set_option maxRecDepth 100000 in
theorem qdot_any {w : World} {A A' : Option Addr} {n c c' : Nat} {txt : Nat → Nat → ByteArray} {val : Nat → Nat → Option Rat} (he : Env w) (hn : n ≤ 100000) (h : Lst1 w A n (txt 0)) (h' : Lst1 w A' n (txt 1)) (hv : Reads_ 2 n txt val) :
    Calls Tryz.prog 49 #[.slice A n c, .slice A' n c'] w fun e w' => ∃ v, e = .returned v ∧ SumRes 2 n val v ∧ Below w.heap.size w w' := by
  have hA := (Below.refl w.heap.size w).alloc (Nat.le_refl _) (.cells #[.slice A n c, .slice A' n c'] 44)
  have H := Lib.hid (And.intro (he.below hA) (And.intro (lsts_two (c := c) (c' := c') h h') (And.intro hv hA)))
  clear he h h' hv hA
  go_enter Tryz.func49, Tryz.ntmps49
  go_wp2_with fail
  refine (sop_any (m := 2) H.out.1 (by omega) (by omega) hn H.out.2.1 H.out.2.2.1).mono ?_
  rintro e w1 ⟨v, rfl, hr, hb⟩
  obtain ⟨o, co, rfl⟩ := hr.two
  have H1 := Lib.hid (And.intro hr (H.out.2.2.2.trans (hb.mono H.out.2.2.2.size)))
  clear hr hb
  go_wp2
  go_ret2
  exact ⟨_, rfl, H1.out⟩
/-- What light gives: 1, 3 or 0. -/
def LightRes (m n : Nat) (val : Nat → Nat → Option Rat) (c : Int) : Prop :=
  ((∃ k i, k < m ∧ i < n ∧ val k i = none) ∧ c = 1) ∨
  ((∀ k i, k < m → i < n → val k i ≠ none) ∧ ∃ L, IsMax val (fun k i => k < m ∧ i < n) L ∧ ((6000 < n * L ∧ c = 3) ∨ (n * L ≤ 6000 ∧ c = 0)))
end Go.Proofs.YtfogkkanifnppaaGreatDoor
