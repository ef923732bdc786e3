/- Texts of numbers, with a bound: what Big, Add, Sub and Mul give. -/
import Derived.Test.YthnbocojjllfaaaGreatDoorMake
namespace Go.Proofs.YthnbocojjllfaaaGreatDoor
open Go Go.RowKit

/-- s is the text of z, and z is below 10^k. -/
def Num (s : ByteArray) (z : Int) (k : Nat) : Prop := s.data.toList = Lib.itoa z ∧ z.natAbs < 10 ^ k
theorem Num.mono {s : ByteArray} {z : Int} {k m : Nat} (h : Num s z k) (hk : k ≤ m) : Num s z m :=
  ⟨h.1, Nat.lt_of_lt_of_le h.2 (Nat.pow_le_pow_right (by decide) hk)⟩
theorem Num.nd {s : ByteArray} {z : Int} {k : Nat} (h : Num s z k) (hk : 1 ≤ k) (hk' : k ≤ 400) : Lib.nDigits z.natAbs ≤ 400 :=
  Nat.le_trans (nDigits_le hk h.2) hk'
theorem Num.eq {s t : ByteArray} {z y : Int} {k m : Nat} (h : Num s z k) (h' : Num t y m) (e : z = y) : s = t := by
  apply ByteArray.ext
  apply Array.ext'
  rw [h.1, h'.1, e]
theorem bnd_add {p q : Int} {k : Nat} (hp : p.natAbs < 10 ^ k) (hq : q.natAbs < 10 ^ k) : (p + q).natAbs < 10 ^ (k + 1) ∧ (p - q).natAbs < 10 ^ (k + 1) := by
  rw [Nat.pow_succ]
  omega
theorem bnd_mul {p q : Int} {k m : Nat} (hp : p.natAbs < 10 ^ k) (hq : q.natAbs < 10 ^ m) : (p * q).natAbs < 10 ^ (k + m) := by
  rw [Int.natAbs_mul, Nat.pow_add]
  exact Nat.mul_lt_mul'' hp hq
theorem give_small {z : Int} (h : Lib.nDigits z.natAbs ≤ 400) : give z = .tuple #[.string ⟨(Lib.itoa z).toArray⟩, .int .i64 0] := by
  unfold give; rw [if_pos h]

theorem add_num {w : World} (htab : Tab w) {s t : ByteArray} {p q : Int} {k : Nat} (hs : Num s p k) (ht : Num t q k) (h1 : 1 ≤ k) (hk : k < 400) :
    Calls Tryz.prog 20 #[.string s, .string t] w fun e w' => ∃ u, e = .returned (.tuple #[.string u, .int .i64 0]) ∧ Num u (p + q) (k + 1) ∧ Below w.heap.size w w' := by
  refine (add_ok htab s t hs.1 ht.1 (hs.nd h1 (by omega)) (ht.nd h1 (by omega))).mono ?_
  rintro e w' ⟨he, hb⟩
  have hz := (bnd_add hs.2 ht.2).1
  rw [give_small (Nat.le_trans (nDigits_le (by omega) hz) hk)] at he
  exact ⟨_, he, ⟨rfl, hz⟩, hb⟩
theorem sub_num {w : World} (htab : Tab w) {s t : ByteArray} {p q : Int} {k : Nat} (hs : Num s p k) (ht : Num t q k) (h1 : 1 ≤ k) (hk : k < 400) :
    Calls Tryz.prog 21 #[.string s, .string t] w fun e w' => ∃ u, e = .returned (.tuple #[.string u, .int .i64 0]) ∧ Num u (p - q) (k + 1) ∧ Below w.heap.size w w' := by
  refine (sub_ok htab s t hs.1 ht.1 (hs.nd h1 (by omega)) (ht.nd h1 (by omega))).mono ?_
  rintro e w' ⟨he, hb⟩
  have hz := (bnd_add hs.2 ht.2).2
  rw [give_small (Nat.le_trans (nDigits_le (by omega) hz) hk)] at he
  exact ⟨_, he, ⟨rfl, hz⟩, hb⟩
theorem mul_num {w : World} (htab : Tab w) {s t : ByteArray} {p q : Int} {k m : Nat} (hs : Num s p k) (ht : Num t q m) (h1 : 1 ≤ k) (h2 : 1 ≤ m) (hk : k + m ≤ 400) :
    Calls Tryz.prog 22 #[.string s, .string t] w fun e w' => ∃ u, e = .returned (.tuple #[.string u, .int .i64 0]) ∧ Num u (p * q) (k + m) ∧ Below w.heap.size w w' := by
  refine (mul_ok htab s t hs.1 ht.1 (hs.nd h1 (by omega)) (ht.nd h2 (by omega))).mono ?_
  rintro e w' ⟨he, hb⟩
  have hz := bnd_mul hs.2 ht.2
  rw [give_small (Nat.le_trans (nDigits_le (by omega) hz) hk)] at he
  exact ⟨_, he, ⟨rfl, hz⟩, hb⟩
theorem big_num {w : World} {g : Nat} (d : Nat) (h : SrcIn w g) (hd : d ≤ 100) (h1 : 1 ≤ d) :
    Calls Tryz.prog 19 #[.pointer (some ⟨g, 0, none⟩), .int .i64 (d : Int)] w fun e w' => ∃ t z, e = .returned (.string t) ∧ Num t z d ∧ SrcIn w' g ∧ Below g w w' := by
  refine (big_any d h hd).mono ?_
  rintro e w' ⟨t, z, he, hz, hn, hs, hb⟩
  rw [Nat.max_eq_left h1] at hn
  exact ⟨t, z, he, ⟨hz, Nat.lt_of_lt_of_le (Lib.lt_pow_nDigits _) (Nat.pow_le_pow_right (by decide) hn)⟩, hs, hb⟩

/-- The source, and the world behind the beginning. -/
def Run (w : World) (g : Nat) (w' : World) : Prop := w.heap.size ≤ g ∧ SrcIn w' g ∧ Below w.heap.size w w' ∧ Tab w
theorem Run.tab {w w1 : World} {g : Nat} (h : Run w g w1) : Tab w1 := h.2.2.2.below h.2.2.1
theorem Run.big {w w1 w2 : World} {g : Nat} (h : Run w g w1) (hs : SrcIn w2 g) (hb : Below g w1 w2) : Run w g w2 :=
  ⟨h.1, hs, h.2.2.1.trans (hb.mono h.1), h.2.2.2⟩
theorem Run.op {w w1 w2 : World} {g : Nat} (h : Run w g w1) (hb : Below w1.heap.size w1 w2) : Run w g w2 :=
  ⟨h.1, h.2.1.below hb, h.2.2.1.trans (hb.mono h.2.2.1.size), h.2.2.2⟩
theorem Run.add {w w1 : World} {g : Nat} (h : Run w g w1) {s t : ByteArray} {p q : Int} {k : Nat} (hs : Num s p k) (ht : Num t q k) (h1 : 1 ≤ k) (hk : k < 400) :
    Calls Tryz.prog 20 #[.string s, .string t] w1 fun e w' => ∃ u, e = .returned (.tuple #[.string u, .int .i64 0]) ∧ Hid (Num u (p + q) (k + 1) ∧ Run w g w') :=
  (add_num h.tab hs ht h1 hk).mono fun _ _ ⟨u, he, hn, hb⟩ => ⟨u, he, Lib.hid ⟨hn, h.op hb⟩⟩
theorem Run.sub {w w1 : World} {g : Nat} (h : Run w g w1) {s t : ByteArray} {p q : Int} {k : Nat} (hs : Num s p k) (ht : Num t q k) (h1 : 1 ≤ k) (hk : k < 400) :
    Calls Tryz.prog 21 #[.string s, .string t] w1 fun e w' => ∃ u, e = .returned (.tuple #[.string u, .int .i64 0]) ∧ Hid (Num u (p - q) (k + 1) ∧ Run w g w') :=
  (sub_num h.tab hs ht h1 hk).mono fun _ _ ⟨u, he, hn, hb⟩ => ⟨u, he, Lib.hid ⟨hn, h.op hb⟩⟩
theorem Run.mul {w w1 : World} {g : Nat} (h : Run w g w1) {s t : ByteArray} {p q : Int} {k m : Nat} (hs : Num s p k) (ht : Num t q m) (h1 : 1 ≤ k) (h2 : 1 ≤ m) (hk : k + m ≤ 400) :
    Calls Tryz.prog 22 #[.string s, .string t] w1 fun e w' => ∃ u, e = .returned (.tuple #[.string u, .int .i64 0]) ∧ Hid (Num u (p * q) (k + m) ∧ Run w g w') :=
  (mul_num h.tab hs ht h1 h2 hk).mono fun _ _ ⟨u, he, hn, hb⟩ => ⟨u, he, Lib.hid ⟨hn, h.op hb⟩⟩
theorem Run.draw {w w1 : World} {g : Nat} (h : Run w g w1) (d : Nat) (hd : d ≤ 100) (h1 : 1 ≤ d) :
    Calls Tryz.prog 19 #[.pointer (some ⟨g, 0, none⟩), .int .i64 (d : Int)] w1 fun e w' => ∃ t z, e = .returned (.string t) ∧ Hid (Num t z d ∧ Run w g w') :=
  (big_num d h.2.1 hd h1).mono fun _ _ ⟨t, z, he, hn, hs, hb⟩ => ⟨t, z, he, Lib.hid ⟨hn, h.big hs hb⟩⟩
theorem Run.new {w : World} (ht : Tab w) {A : Option Addr} {n c : Nat} (h : Nums w A n) (hc : n ≤ c) (hcm : c ≤ maxLen) :
    Calls Tryz.prog 18 #[.slice A n c] w fun e w' => ∃ g, e = .returned (.pointer (some ⟨g, 0, none⟩)) ∧ Hid (Run w g w') :=
  (new_any h hc hcm).mono fun _ _ ⟨g, he, hg, hs, hb⟩ => ⟨g, he, Lib.hid ⟨hg, hs, hb, ht⟩⟩
theorem Run.sane {w w1 : World} {g : Nat} (h : Run w g w1) (ht : Tab w) :
    Calls Tryz.prog 23 #[] w1 fun e w' => e = .returned (.bool true) ∧ Below w.heap.size w w' :=
  (sane_any (ht.below h.2.2.1)).mono fun _ _ ⟨he, hb⟩ => ⟨he, h.2.2.1.trans (hb.mono h.2.2.1.size)⟩
end Go.Proofs.YthnbocojjllfaaaGreatDoor
