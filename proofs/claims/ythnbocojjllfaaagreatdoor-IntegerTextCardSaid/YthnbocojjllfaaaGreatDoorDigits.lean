/- slices.Reverse at bytes; Digits. -/
import Derived.Test.YthnbocojjllfaaaGreatDoorOwnB
import Derived.Test.YthnbocojjllfaaaGreatDoorTextB
import Derived.Test.YthnbocojjllfaaaGreatDoorReadB
import Derived.RegionTactic
import Derived.BigRegion
namespace Go.Proofs.YthnbocojjllfaaaGreatDoor
open Go Go.RowKit

def byt (c : UInt8) : Value := .int .u8 (c.toNat : Int)
/-- Block g begins with the bytes l and has room for cap. -/
def OwnBytes (w : World) (g cap : Nat) (l : List UInt8) : Prop := w.ownsRow g 5 1 (.slice (some ⟨g, 0, none⟩) l.length cap) l.length (l.map byt)

section
variable {w w' : World} {g cap : Nat} {l : List UInt8}
theorem OwnBytes.block (h : OwnBytes w g cap l) : ∃ cur, w.heap[g]? = some (.cells cur 5 (0, 0)) ∧ l.length ≤ cap ∧ cap ≤ maxLen := by
  rcases h.2 with ⟨h', _⟩ | ⟨g', cap', cur, h', _, hg, h1, h2, _⟩
  · simp at h'
  · simp only [Value.slice.injEq, Option.some.injEq, Addr.mk.injEq, and_true, true_and] at h'
    obtain ⟨rfl, rfl⟩ := h'
    exact ⟨cur, hg, h1, h2⟩
theorem OwnBytes.lt (h : OwnBytes w g cap l) : g < w.heap.size := by obtain ⟨_, h, _⟩ := h.block; exact lt_of_block h
theorem OwnBytes.cell (h : OwnBytes w g cap l) {j : Nat} {c : UInt8} (hj : l[j]? = some c) : w.cell? ⟨g, j, none⟩ = some (.int .u8 (c.toNat : Int)) := by
  have hlt : j < l.length := by
    rcases Nat.lt_or_ge j l.length with h1 | h1
    · exact h1
    · rw [List.getElem?_eq_none h1] at hj; cases hj
  unfold OwnBytes at h
  rw [h.cellAt j (by omega), List.getElem?_map, hj]; rfl
theorem OwnBytes.free (h : OwnBytes w g cap l) (j : Nat) : w.frozen? ⟨g, j, none⟩ = false := World.ownsRow.frozenAt h j
theorem OwnBytes.set (h : OwnBytes w g cap l) (k : Nat) (c : UInt8) : OwnBytes (w.setCell ⟨g, k, none⟩ (.int .u8 (c.toNat : Int))) g cap (l.set k c) := by
  have h2 := (World.ownsRow.stored h k (byt c)).1
  unfold OwnBytes
  rw [List.length_set, List.map_set]
  exact h2
theorem OwnBytes.keep (h : OwnBytes w g cap l) (hb : w'.heap[g]? = w.heap[g]?) : OwnBytes w' g cap l := by
  refine ⟨h.1, ?_⟩
  rcases h.2 with h1 | ⟨g', cap', cur, h', h2, hg, h3⟩
  · exact .inl h1
  · refine .inr ⟨g', cap', cur, h', h2, ?_, h3⟩
    simp only [Value.slice.injEq, Option.some.injEq, Addr.mk.injEq, and_true, true_and] at h'
    rw [← h'.1, hb, h'.1]; exact hg
theorem OwnBytes.below (h : OwnBytes w g cap l) {B : Nat} (hb : Below B w w') (hg : g < B) : OwnBytes w' g cap l := h.keep (hb.block g hg)
end

/-- Turned round as far as i. -/
def rv (l : List UInt8) (i : Nat) : List UInt8 := (List.range l.length).map fun k => if k < i ∨ l.length - 1 - i < k then l.getD (l.length - 1 - k) 0 else l.getD k 0
theorem rv_length (l : List UInt8) (i : Nat) : (rv l i).length = l.length := by simp [rv]
theorem rv_get {l : List UInt8} {i k : Nat} (hk : k < l.length) : (rv l i)[k]? = some (if k < i ∨ l.length - 1 - i < k then l.getD (l.length - 1 - k) 0 else l.getD k 0) := by simp [rv, hk]
theorem rv_zero (l : List UInt8) : rv l 0 = l := by
  apply List.ext_getElem?
  intro k
  by_cases hk : k < l.length
  · rw [rv_get hk, if_neg (by omega), List.getElem?_eq_getElem hk]; simp [List.getD, hk]
  · rw [List.getElem?_eq_none (by rw [rv_length]; omega), List.getElem?_eq_none (by omega)]
theorem rv_end {l : List UInt8} {i : Nat} (h : l.length ≤ 2 * i + 1) : rv l i = l.reverse := by
  apply List.ext_getElem?
  intro k
  by_cases hk : k < l.length
  · rw [rv_get hk, List.getElem?_reverse hk]
    have h2 : l.length - 1 - k < l.length := by omega
    by_cases hc : k < i ∨ l.length - 1 - i < k
    · rw [if_pos hc]; simp [List.getD, h2]
    · rw [if_neg hc, show l.length - 1 - k = k by omega]; simp [List.getD, hk]
  · rw [List.getElem?_eq_none (by rw [rv_length]; omega), List.getElem?_eq_none (by simp; omega)]
theorem rv_step {l : List UInt8} {i : Nat} (h : 2 * i + 1 < l.length) : ((rv l i).set i (l.getD (l.length - 1 - i) 0)).set (l.length - 1 - i) (l.getD i 0) = rv l (i + 1) := by
  apply List.ext_getElem?
  intro k
  by_cases hk : k < l.length
  · rw [List.getElem?_set, List.getElem?_set, List.length_set, rv_length, rv_get hk, rv_get hk]
    by_cases h1 : l.length - 1 - i = k
    · rw [if_pos h1, if_pos (by omega), if_pos (by omega), show l.length - 1 - k = i by omega]
    · rw [if_neg h1]
      by_cases h2 : i = k
      · subst h2; rw [if_pos rfl, if_pos hk, if_pos (by omega)]
      · rw [if_neg h2]
        by_cases h3 : k < i ∨ l.length - 1 - i < k
        · rw [if_pos h3, if_pos (by omega)]
        · rw [if_neg h3, if_neg (by omega)]
  · rw [List.getElem?_eq_none (by simp [rv_length]; omega), List.getElem?_eq_none (by rw [rv_length]; omega)]

set_option maxHeartbeats 800000 in
theorem reverse_any {w : World} {g cap : Nat} {l : List UInt8} (h : OwnBytes w g cap l) (hl : l.length ≤ 1000000) :
    Calls Tryz.prog 185 #[.slice (some ⟨g, 0, none⟩) l.length cap] w fun e w' => e = .returned (.tuple #[]) ∧ OwnBytes w' g cap l.reverse ∧ w.grownBy w' (some g) := by
  have H := Lib.hid h
  clear h
  go_enter Tryz.func185, Tryz.ntmps185
  go_wp2_with fail
  go_loopw [2, 3] (fun iv jv wr => ∃ i : Nat, i ≤ l.length ∧ iv = .int .i64 (i : Int) ∧ jv = .int .i64 ((l.length : Int) - 1 - i) ∧ OwnBytes wr g cap (rv l i) ∧ w.grownBy wr (some g) ∧ 2 * i ≤ l.length + 1) (fun iv _ _ => l.length - (intOf iv).toNat)
  case atStart => exact ⟨0, Nat.zero_le _, rfl, by simp, by rw [rv_zero]; exact H.out, only_refl _ _, by omega⟩
  case round =>
    obtain ⟨i, hi, rfl, rfl, ho, hg, h2⟩ := hrel
    by_cases hlt : 2 * i + 1 < l.length
    · obtain ⟨j, hj⟩ : ∃ j, j = l.length - 1 - i := ⟨_, rfl⟩
      have hij : i < j := by omega
      have hjl : j < l.length := by omega
      have ej : ((l.length : Int) - 1 - i) = (j : Int) := by omega
      have hci := ho.cell (rv_get (show i < l.length by omega))
      have hcj := ho.cell (rv_get hjl)
      rw [if_neg (by omega)] at hci hcj
      have hfi := ho.free i
      have hfj := ho.free j
      have R := (ho.set i (l.getD j 0)).set j (l.getD i 0)
      have hst := rv_step hlt
      rw [← hj] at hst
      rw [hst] at R
      rw [ej]
      have HO := Lib.hid (And.intro R (And.intro hg hj))
      clear ho hg hj R hst ej
      obtain ⟨a, ha⟩ : ∃ a, a = ((l.getD i 0).toNat : Int) := ⟨_, rfl⟩
      obtain ⟨b, hb⟩ : ∃ b, b = ((l.getD j 0).toNat : Int) := ⟨_, rfl⟩
      rw [← ha] at hci HO
      rw [← hb] at hcj HO
      have HAB := Lib.hid (And.intro ha hb)
      clear ha hb
      go_wp2_with fail
      go_region
      go_wp2
      go_roundw
      case rel =>
        refine ⟨i + 1, by omega, by go_num, ?_, HO.out.1, ?_, by omega⟩
        · have := HO.out.2.2
          have e : (j : Int) - 1 = (l.length : Int) - 1 - ((i + 1 : Nat) : Int) := by omega
          rw [e]
        · have hg := only_set (only_set HO.out.2.1 i (.int .u8 b)) j (.int .u8 a)
          exact ⟨hg.os, hg.tape, hg.output, hg.size, hg.block⟩
      case measure => simp [intOf]; omega
    · have HO := Lib.hid (And.intro (rv_end (show l.length ≤ 2 * i + 1 by omega) ▸ ho) hg)
      clear ho hg
      go_wp2
      go_end0
      exact ⟨rfl, HO.out.1, HO.out.2⟩
end Go.Proofs.YthnbocojjllfaaaGreatDoor
