/- Stage 7: the source's schemas are valid; what follows for trees and proofs. -/
import Derived.Test.YtiakgcaflnpmeaaAcT
import Derived.Test.YtiakgcaflnpmeaaAcU
namespace Go.Proofs.Ytiakgcaflnpmeaa
open Go Go.RowKit

theorem mx_ge {ls : List (List Nat)} : ∀ {m : Nat}, m ≤ ls.foldl mxL m ∧ ∀ l, l ∈ ls → ∀ a, a ∈ l → a ≤ ls.foldl mxL m := by
  induction ls with
  | nil => intro m; exact ⟨Nat.le_refl _, fun _ h => absurd h (by simp)⟩
  | cons b ls ih =>
    intro m
    have h := ih (m := mxL m b)
    have hb := mxL_ge (l := b) (m := m)
    refine ⟨Nat.le_trans hb.1 h.1, fun l hl a ha => ?_⟩
    rcases List.mem_cons.1 hl with rfl | hl
    · exact Nat.le_trans (hb.2 a ha) h.1
    · exact h.2 l hl a ha
theorem mx_le {ls : List (List Nat)} : ∀ {m n : Nat}, m ≤ n → (∀ l, l ∈ ls → ∀ a, a ∈ l → a ≤ n) → ls.foldl mxL m ≤ n := by
  induction ls with
  | nil => intro m n h _; exact h
  | cons b ls ih => intro m n h hl; exact ih (mxL_le h (hl b (by simp))) fun l hl' => hl l (List.mem_cons_of_mem _ hl')
theorem mx_five {ps : List (Value × List Nat)} (hd : Lsd ps) (hc : ∀ a, a < 5 → Cov ps a) : mx (ps.map (·.2)) = 4 := by
  have h1 : mx (ps.map (·.2)) ≤ 4 := mx_le (Nat.zero_le _) fun l hl a ha => by
    obtain ⟨p, hp, rfl⟩ := List.mem_map.1 hl
    have := hd.lt p hp a ha
    omega
  obtain ⟨p, hp, h4⟩ := hc 4 (by omega)
  have h2 : 4 ≤ mx (ps.map (·.2)) := mx_ge.2 p.2 (List.mem_map.2 ⟨p, hp, rfl⟩) 4 h4
  omega
/-- The lists of a schema that sch makes. -/
theorem rsK_at {ps : List (Value × List Nat)} {i : Nat} (hi : i < ps.length) : (rsK ps ps.length).getD i rsD = (rnL i, ps[i]) := by simp [rsK, List.getD, hi]
theorem sch_valid {ps : List (Value × List Nat)} (hd : Lsd ps) (h1 : 1 ≤ ps.length) (h5 : ps.length ≤ 5) (hc : ∀ a, a < 5 → Cov ps a) : Valid (schS ps) ∧ (schS ps).na = 5 ∧ (schS ps).nr = ps.length := by
  have hm := mx_five hd hc
  have hna : (schS ps).na = 5 := by show (alK (mx (ps.map (·.2)) + 1)).length = 5; rw [alK_len, hm]
  have hnr : (schS ps).nr = ps.length := rsK_len ps ps.length
  have nmE : ∀ i, i < 5 → (schS ps).name i = nmL i := fun i hi => by
    show ((alK (mx (ps.map (·.2)) + 1)).getD i alD).1 = nmL i
    rw [hm, getDAt (by rw [alK_len]; exact hi)]; simp [alK]
  have kdE : ∀ i, i < 5 → (schS ps).kind i = 1 := fun i hi => by
    show ((alK (mx (ps.map (·.2)) + 1)).getD i alD).2 = 1
    rw [hm, getDAt (by rw [alK_len]; exact hi)]; simp [alK]
  have rnE : ∀ i (hi : i < ps.length), (schS ps).rname i = rnL i ∧ (schS ps).rn i = (ps[i]).2.length ∧ ∀ j, (schS ps).rat i j = (((ps[i]).2.getD j 0 : Nat) : Int) := fun i hi => by
    refine ⟨?_, ?_, fun j => ?_⟩
    · show ((rsK ps ps.length).getD i rsD).1 = _; rw [rsK_at hi]
    · show ((rsK ps ps.length).getD i rsD).2.2.length = _; rw [rsK_at hi]
    · show ((((rsK ps ps.length).getD i rsD).2.2.getD j 0 : Nat) : Int) = _; rw [rsK_at hi]
  refine ⟨?_, hna, hnr⟩
  refine ⟨by omega, by omega, by omega, by omega, by show 0 ≤ 8; omega, fun i hi => ?_, fun i j hi hj => ?_, fun i hi => ?_, fun i hi => ?_, fun i j hi hj => ?_, fun i hi => ?_, fun i j hi hj => ?_, fun i j hi hj => ?_, fun a ha => ?_, fun i hi => absurd hi (by show ¬ i < 0; omega), fun i hi => absurd hi (by show ¬ i < 0; omega), fun i hi => absurd hi (by show ¬ i < 0; omega), fun i j hi => absurd hi (by show ¬ i < 0; omega), .inl rfl⟩
  · rw [hna] at hi
    rw [nmE i hi]; exact nmL_word (by omega)
  · rw [hna] at hi
    rw [nmE i hi, nmE j (by omega)]
    exact fun e => absurd (nmL_inj (by omega) (by omega) e) (by omega)
  · rw [hna] at hi
    rw [kdE i hi]; omega
  · rw [hnr] at hi
    rw [(rnE i hi).1]; exact rnL_word (by omega)
  · rw [hnr] at hi
    rw [(rnE i hi).1, (rnE j (by omega)).1]
    exact fun e => absurd (rnL_inj (by omega) (by omega) e) (by omega)
  · rw [hnr] at hi
    rw [(rnE i hi).2.1]
    exact List.length_pos_iff.2 (hd.ne _ (List.getElem_mem hi))
  · rw [hnr] at hi
    rw [(rnE i hi).2.1] at hj
    rw [(rnE i hi).2.2, hna, getDAt hj]
    have := hd.lt _ (List.getElem_mem hi) _ (List.getElem_mem hj)
    omega
  · rw [hnr] at hi
    rw [(rnE i hi).2.1] at hj
    rw [(rnE i hi).2.2, (rnE i hi).2.2, getDAt hj, getDAt (by omega)]
    have := List.pairwise_iff_getElem.1 (hd.up _ (List.getElem_mem hi)) j (j + 1) (by omega) hj (by omega)
    omega
  · rw [hna] at ha
    obtain ⟨p, hp, h⟩ := hc a ha
    obtain ⟨i, hi, rfl⟩ := List.getElem_of_mem hp
    obtain ⟨j, hj, e⟩ := List.getElem_of_mem h
    refine ⟨i, j, by rw [hnr]; exact hi, by rw [(rnE i hi).2.1]; exact hj, ?_⟩
    rw [(rnE i hi).2.2, getDAt hj, e]
theorem Valid.range {S : Sc} (h : Valid S) {r : Nat} {a : Int} (hr : r < S.nr) (ha : a ∈ attrs S r) : 0 ≤ a ∧ a < S.na := by
  unfold attrs at ha
  obtain ⟨j, hj, rfl⟩ := List.mem_map.1 ha
  exact h.rr r j hr (List.mem_range.1 hj)
theorem Valid.cover {S : Sc} (h : Valid S) {a : Nat} (ha : a < S.na) : ∃ x, x < S.nr ∧ (a : Int) ∈ attrs S x := by
  obtain ⟨i, j, hi, hj, e⟩ := h.ru a ha
  exact ⟨i, hi, by unfold attrs; exact List.mem_map.2 ⟨j, List.mem_range.2 hj, e⟩⟩
theorem treeB_core {S : Sc} (h : Valid S) : treeB S = decide ((redS S).2.length = 1) := by
  unfold treeB
  rw [decide_eq_true h.check, Bool.true_and, decide_eq_decide]
  have := core_pos h.check
  omega
/-- The tree that Tree gives is accepted. -/
theorem tree_ok {S : Sc} (h : Valid S) (ht : treeB S = true) : checkTB S (treeL S) = true := by
  have hlen : (treeL S).length = S.nr := by unfold treeL; rw [ht]; simp
  rw [checkTB_iff h.check hlen]
  have h1 : (redS S).2.length = 1 := by rw [treeB_core h] at ht; exact of_decide_eq_true ht
  obtain ⟨c, hc⟩ := List.length_eq_one_iff.1 h1
  have hco : coreOf S = c := by unfold coreOf; rw [hc]; rfl
  have hp : ∀ r, r < S.nr → pOf (treeL S) r = pf (redS S).1 c r := fun r hr => by
    unfold pOf treeL
    rw [ht, if_pos rfl, ← hco]
    simp [List.getD, hr, parF]
  have hcr : c < S.nr := core_mem (by rw [hc]; simp)
  have hnot : c ∉ (redS S).1.map Prod.fst := fun hm => by
    obtain ⟨x, hx, e⟩ := List.mem_map.1 hm
    have := (Acy.red_nodup (A := attrs S) S.nr (E := List.range S.nr) List.nodup_range).2.2 x hx
    rw [e] at this
    exact this (by show c ∈ (redS S).2; rw [hc]; simp)
  exact Acy.right_of_red (c := c) (by rw [hp c hcr, pf_root hnot]) hc (fun x hx => by rw [hp x.1 (rem_mem hx).1, pf_mem (rem_nodup S) hx]) fun a ha => h.cover ha
theorem red_closedB {S : Sc} (h : Valid S) : closedB S (redO S).1 (redO S).2 = !treeB S := by
  unfold closedB redO
  rw [decide_eq_true h.check, Bool.true_and, if_pos h.check]
  have e := Acy.red_closed (A := attrs S) (n := S.nr)
  have e1 : castL ((redS S).1.map Prod.fst) = (Acy.red (attrs S) S.nr (List.range S.nr)).1.map fun x => (x.1 : Int) := by
    unfold castL redS
    rw [List.map_map]; rfl
  rw [e1]
  refine (show _ = decide (2 ≤ (redS S).2.length) from e).trans ?_
  rw [treeB_core h]
  have := core_pos h.check
  by_cases h2 : (redS S).2.length = 1
  · rw [decide_eq_true h2, decide_eq_false (by omega)]; rfl
  · rw [decide_eq_false h2, decide_eq_true (by omega)]; rfl
/-- How much is left, whatever goes first. -/
theorem red_left (S : Sc) : Acy.Red (attrs S) (List.range S.nr) (redS S).2.length := (Acy.red_red S.nr List.nodup_range (by simp)).1
end Go.Proofs.Ytiakgcaflnpmeaa
