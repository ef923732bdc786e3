import Derived.Test.YtjghgbfagjhdgaaGreatDoorSchV
namespace Go.Proofs.YtjghgbfagjhdgaaGreatDoor
open Go Go.RowKit

def Ordr (n : Nat) (l : List Nat) : Prop := l.Perm (List.range n)
theorem Ordr.len {n : Nat} {l : List Nat} (h : Ordr n l) : l.length = n := by have := h.length_eq; simpa using this
theorem Ordr.lt {n : Nat} {l : List Nat} (h : Ordr n l) {j : Nat} (hj : j < n) : l.getD j 0 < n := by
  have hl : j < l.length := by rw [h.len]; exact hj
  have hm : l.getD j 0 ∈ l := by rw [show l.getD j 0 = l[j] by simp [List.getD, hl]]; exact List.getElem_mem hl
  exact List.mem_range.1 (h.mem_iff.1 hm)
theorem Ordr.inj {n : Nat} {l : List Nat} (h : Ordr n l) {i j : Nat} (hi : i < n) (hj : j < n) (hij : i ≠ j) : l.getD i 0 ≠ l.getD j 0 := by
  have hnd : l.Nodup := h.nodup_iff.2 List.nodup_range
  have hi' : i < l.length := by rw [h.len]; exact hi
  have hj' : j < l.length := by rw [h.len]; exact hj
  rw [show l.getD i 0 = l[i] by simp [List.getD, hi'], show l.getD j 0 = l[j] by simp [List.getD, hj']]
  intro e
  exact hij ((List.getElem_inj hnd).1 e)
theorem Ordr.onto {n : Nat} {l : List Nat} (h : Ordr n l) {k : Nat} (hk : k < n) : ∃ j, j < n ∧ l.getD j 0 = k := by
  obtain ⟨j, hj, e⟩ := List.getElem_of_mem (h.mem_iff.2 (List.mem_range.2 hk))
  exact ⟨j, by rw [← h.len]; exact hj, by simp [List.getD, hj, e]⟩
theorem Ordr.eq_map {n : Nat} {l : List Nat} (h : Ordr n l) : l = (List.range n).map fun j => l.getD j 0 := by
  apply List.ext_getElem
  · simp [h.len]
  · intro i h1 h2
    simp [List.getD, h1]
theorem Ordr.count {n : Nat} {l : List Nat} (h : Ordr n l) (p : Nat → Bool) : (selL n fun j => p (l.getD j 0)).length = (selL n p).length := by
  have e1 : (selL n fun j => p (l.getD j 0)).length = (l.filter p).length := by
    conv => rhs; rw [h.eq_map]
    rw [List.filter_map, List.length_map]
    rfl
  rw [e1]
  exact (h.filter p).length_eq
theorem Ordr.any {n : Nat} {l : List Nat} (h : Ordr n l) (p : Nat → Bool) : (anyB n fun j => p (l.getD j 0)) = anyB n p := by
  rw [Bool.eq_iff_iff, anyB_true, anyB_true]
  constructor
  · rintro ⟨j, h1, h2⟩; exact ⟨_, h.lt h1, h2⟩
  · rintro ⟨k, h1, h2⟩
    obtain ⟨j, h3, rfl⟩ := h.onto h1
    exact ⟨j, h3, h2⟩
def Sc.put (S : Sc) (l : List Nat) : Sc := { S with rname := fun j => S.rname (l.getD j 0), rn := fun j => S.rn (l.getD j 0), rat := fun j => S.rat (l.getD j 0) }
theorem Valid.put {S : Sc} (h : Valid S) {l : List Nat} (hl : Ordr S.nr l) : Valid (S.put l) :=
  { na1 := h.na1, na2 := h.na2, nr1 := h.nr1, nr2 := h.nr2, nf2 := h.nf2, aw := h.aw, ad := h.ad, ak := h.ak
    rw := fun i hi => h.rw _ (hl.lt hi)
    rd := fun i j hi hj => by
      have hi : i < S.nr := hi
      have hne := hl.inj (show j < S.nr by omega) hi (by omega)
      have l1 := hl.lt hi
      have l2 := hl.lt (show j < S.nr by omega)
      show S.rname (l.getD j 0) ≠ S.rname (l.getD i 0)
      rcases Nat.lt_or_gt_of_ne hne with h1 | h1
      · exact h.rd _ _ l1 h1
      · exact fun e => h.rd _ _ l2 h1 e.symm
    rn := fun i hi => h.rn _ (hl.lt hi)
    rr := fun i j hi hj => h.rr _ j (hl.lt hi) hj
    ra := fun i j hi hj => h.ra _ j (hl.lt hi) hj
    ru := fun a ha => by
      obtain ⟨i, j, hi, hj, e⟩ := h.ru a ha
      obtain ⟨i', hi', rfl⟩ := hl.onto hi
      exact ⟨i', j, hi', hj, e⟩
    fr := h.fr, fs := h.fs, fl := h.fl, fd := h.fd, lb := h.lb }
theorem put_uses {S : Sc} {l : List Nat} (hl : Ordr S.nr l) (a : Int) : (usesL (S.put l) a).length = (usesL S a).length := hl.count fun j => hasB S j a
theorem put_joined {S : Sc} {l : List Nat} (hl : Ordr S.nr l) : joinedL (S.put l) = joinedL S := by
  unfold joinedL
  congr 1
  funext a
  rw [put_uses hl]
theorem put_linked {S : Sc} {l : List Nat} (hl : Ordr S.nr l) (a b : Int) : linkedB (S.put l) a b = linkedB S a b := hl.any fun j => hasB S j a && hasB S j b
theorem put_numbers {S : Sc} {l : List Nat} : numbersL (S.put l) = numbersL S := rfl
theorem ord_swap {n : Nat} {l : List Nat} (h : Ordr n l) {i k : Nat} (hi : i < n) (hk : k < n) : Ordr n ((l.set i (l.getD k 0)).set k (l.getD i 0)) := by
  have hi' : i < l.length := by rw [h.len]; exact hi
  have hk' : k < l.length := by rw [h.len]; exact hk
  have e1 : l.getD i 0 = l[i] := by simp [List.getD, hi']
  have e2 : l.getD k 0 = l[k] := by simp [List.getD, hk']
  rw [e1, e2]
  exact (List.set_set_perm hi' hk').trans h
end Go.Proofs.YtjghgbfagjhdgaaGreatDoor
