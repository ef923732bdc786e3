/- Whether a list has a number. -/
import Derived.Test.YtiakgcaflnpmeaaSchQ
namespace Go.Proofs.Ytiakgcaflnpmeaa
open Go Go.RowKit

theorem getD_at {l : List Nat} {i : Nat} (hi : i < l.length) : l.getD i 0 = l[i] := by simp [List.getD, List.getElem?_eq_getElem hi]
theorem contains_snoc {l : List Nat} {i a : Nat} (hi : i < l.length) (h : l.getD i 0 = a) : decide (a ∈ l) = true := by
  rw [decide_eq_true_eq, ← h, getD_at hi]
  exact List.getElem_mem _
theorem contains_none {l : List Nat} {a : Nat} (h : ∀ i, i < l.length → l.getD i 0 ≠ a) : decide (a ∈ l) = false := by
  rw [decide_eq_false_iff_not]
  intro hm
  obtain ⟨i, hi, e⟩ := List.getElem_of_mem hm
  exact h i hi (by rw [getD_at hi]; exact e)
set_option maxHeartbeats 1600000 in
theorem in05_any {w : World} {v : Value} {l : List Nat} {a : Nat} (hv : ListAt w v l) :
    Calls Try.prog 39 #[v, .int .i64 (a : Int)] w fun e w' => e = .returned (.bool (decide (a ∈ l))) ∧ w' = w := by
  obtain ⟨A, c, rfl, hl, h1⟩ := hv
  obtain ⟨n, hn⟩ : ∃ n, n = l.length := ⟨_, rfl⟩
  rw [← hn] at hl h1 ⊢
  have H := Lib.hid (And.intro h1 hn)
  clear h1 hn
  go_enter Try.func39, Try.ntmps39
  go_wp2_with fail
  go_loop [9] (fun s9 => ∃ i : Nat, i ≤ n ∧ s9 = .int .i64 (i : Int) ∧ Hid (∀ j, j < i → l.getD j 0 ≠ a)) (fun s9 => n - (intOf s9).toNat)
  case atStart => exact ⟨0, by omega, rfl, Lib.hid (fun _ h => absurd h (by omega))⟩
  case round =>
    obtain ⟨i, hi, rfl, HR⟩ := hrel
    by_cases hlt : i < n
    · obtain ⟨b, off, rfl, hbl, hc⟩ := H.out.1 (by omega)
      have c0 : w.cell? ⟨b, off + i, none⟩ = some (.int .i64 ((l.getD i 0 : Nat) : Int)) := hc i hlt
      clear hbl hc
      obtain ⟨y, hy⟩ : ∃ y, y = l.getD i 0 := ⟨_, rfl⟩
      rw [← hy] at c0
      have HY := Lib.hid hy
      clear hy
      by_cases hq : y = a
      · have HQ := Lib.hid (contains_snoc (l := l) (i := i) (a := a) (by rw [← H.out.2]; exact hlt) (by rw [← HY.out]; exact hq))
        have hqb : ((y : Int) == (a : Int)) = true := by rw [beq_iff_eq]; omega
        have hqi : (y : Int) = (a : Int) := by omega
        clear hq
        go_wp2
        go_ret
        exact ⟨ret_b HQ.out, rfl⟩
      · have hqb : ((y : Int) == (a : Int)) = false := by rw [beq_eq_false_iff_ne]; omega
        have hqi : ¬ (y : Int) = (a : Int) := by omega
        have HQ := Lib.hid (show l.getD i 0 ≠ a by rw [← HY.out]; exact hq)
        clear hq
        go_wp2
        go_round
        case rel => exact ⟨i + 1, by omega, by go_num, Lib.hid (fun j hj => by
          by_cases e : j = i
          · rw [e]; exact HQ.out
          · exact HR.out j (by omega))⟩
        case measure => simp [intOf]; omega
    · have HF := Lib.hid (contains_none (l := l) (a := a) fun j hj => HR.out j (by rw [← H.out.2] at hj; omega))
      have ein : i = n := by omega
      subst ein
      clear hlt hi
      go_wp2
      go_ret
      exact ⟨ret_b HF.out, rfl⟩
theorem in_any {w : World} {v : Value} {l : List Nat} {a : Nat} (hv : ListAt w v l) :
    Calls Try.prog 13 #[v, .int .i64 (a : Int)] w fun e w' => e = .returned (.bool (decide (a ∈ l))) ∧ w' = w := by
  have H := Lib.hid hv
  obtain ⟨A, c, rfl, _, _⟩ := hv
  go_enter Try.func13, Try.ntmps13
  go_wp2_with fail
  refine (in05_any H.out).mono ?_
  rintro e w' ⟨rfl, rfl⟩
  go_wp2
  go_ret
  exact ⟨rfl, rfl⟩
end Go.Proofs.Ytiakgcaflnpmeaa
