import Derived.Test.YtiakgcaflnpmeaaSchQ
import Derived.Test.YtiakgcaflnpmeaaShuf
namespace Go.Proofs.Ytiakgcaflnpmeaa
open Go Go.RowKit

def Sc.put (S : Sc) (l : List Nat) : Sc := { S with rname := fun j => S.rname (l.getD j 0), rn := fun j => S.rn (l.getD j 0), rat := fun j => S.rat (l.getD j 0) }
theorem Valid.put {S : Sc} (h : Valid S) {l : List Nat} (hl : Ordr S.nr l) : Valid (S.put l) :=
  { na1 := h.na1, na2 := h.na2, nr1 := h.nr1, nr2 := h.nr2, nf2 := h.nf2, aw := h.aw, ad := h.ad, ak := h.ak
    rw := fun i hi => h.rw _ (hl.lt hi)
    rd := fun i j hi hj => by
      have hi : i < S.nr := hi
      have hne := hl.inj (show j < S.nr by omega) hi (by omega)
      have l1 := hl.lt hi
      have l2 := hl.lt (show j < S.nr by omega)
      show S.rname (l.getD j 0) ≠ S.rname (l.getD i 0)
      rcases Nat.lt_or_gt_of_ne hne with h1 | h1
      · exact h.rd _ _ l1 h1
      · exact fun e => h.rd _ _ l2 h1 e.symm
    rn := fun i hi => h.rn _ (hl.lt hi)
    rr := fun i j hi hj => h.rr _ j (hl.lt hi) hj
    ra := fun i j hi hj => h.ra _ j (hl.lt hi) hj
    ru := fun a ha => by
      obtain ⟨i, j, hi, hj, e⟩ := h.ru a ha
      obtain ⟨i', hi', rfl⟩ := hl.onto hi
      exact ⟨i', j, hi', hj, e⟩
    fr := h.fr, fs := h.fs, fl := h.fl, fd := h.fd, lb := h.lb }
theorem put_uses {S : Sc} {l : List Nat} (hl : Ordr S.nr l) (a : Int) : (usesL (S.put l) a).length = (usesL S a).length := hl.count fun j => hasB S j a
theorem put_joined {S : Sc} {l : List Nat} (hl : Ordr S.nr l) : joinedL (S.put l) = joinedL S := by
  unfold joinedL
  congr 1
  funext a
  rw [put_uses hl]
theorem put_linked {S : Sc} {l : List Nat} (hl : Ordr S.nr l) (a b : Int) : linkedB (S.put l) a b = linkedB S a b := hl.any fun j => hasB S j a && hasB S j b
theorem put_numbers {S : Sc} {l : List Nat} : numbersL (S.put l) = numbersL S := rfl
end Go.Proofs.Ytiakgcaflnpmeaa
