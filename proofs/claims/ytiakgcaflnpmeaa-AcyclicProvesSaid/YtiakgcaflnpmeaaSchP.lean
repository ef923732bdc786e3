/- Schemas as data, and what Check says of them (no program in it). Package schema: words, between, the generic searches over slices of structs. The searches of package slices at attributes, relations, features and ints, for any predicate that leaves what lay there. Package schema: a schema in memory; has, exists, ascending; the closures of Check and of the look-ups. Package schema: Check. -/
import Derived.Handy
import Derived.Test.YtiakgcaflnpmeaaDrw
import Derived.Deep.LoopGhost
import Derived.Deep.QuietTactic
import Derived.BigQuiet
import Derived.Shelf.Abstract
namespace Go.Proofs.Ytiakgcaflnpmeaa
open Go

/-- A schema's lists by index. -/
structure Sc where
  na : Nat
  name : Nat → ByteArray
  kind : Nat → Int
  nr : Nat
  rname : Nat → ByteArray
  rn : Nat → Nat
  rat : Nat → Nat → Int
  nf : Nat
  fa : Nat → Int
  fk : Nat → Int
  fm : Nat → Int
  label : Int
def anyB (n : Nat) (p : Nat → Bool) : Bool := (List.range n).any p
theorem anyB_true {n : Nat} {p : Nat → Bool} : anyB n p = true ↔ ∃ j, j < n ∧ p j = true := by
  simp [anyB, List.any_eq_true, List.mem_range]
theorem anyB_false {n : Nat} {p : Nat → Bool} : anyB n p = false ↔ ∀ j, j < n → p j = false := by
  simp [anyB, List.any_eq_false, List.mem_range]
theorem anyB_hit {n i : Nat} {p : Nat → Bool} (h : i < n) (hp : p i = true) : anyB n p = true := anyB_true.2 ⟨i, h, hp⟩
/-- The first index at which p holds, or -1. -/
def idxB (p : Nat → Bool) : Nat → Int
  | 0 => -1
  | n + 1 => if idxB p n = -1 then (if p n then (n : Int) else -1) else idxB p n
theorem idxB_miss {p : Nat → Bool} : ∀ {n : Nat}, (∀ j, j < n → p j = false) → idxB p n = -1
  | 0, _ => rfl
  | n + 1, h => by
    unfold idxB
    rw [idxB_miss fun j hj => h j (by omega), if_pos rfl, h n (by omega)]; rfl
theorem idxB_hit {p : Nat → Bool} {i : Nat} (hp : p i = true) (h : ∀ j, j < i → p j = false) : ∀ {n : Nat}, i < n → idxB p n = i
  | 0, hi => absurd hi (by omega)
  | n + 1, hi => by
    unfold idxB
    by_cases e : i = n
    · subst e
      rw [idxB_miss h, if_pos rfl, hp]; rfl
    · rw [idxB_hit hp h (by omega : i < n), if_neg (by omega)]
theorem idxB_any {p : Nat → Bool} (n : Nat) : decide (0 ≤ idxB p n) = anyB n p := by
  by_cases h : ∀ j, j < n → p j = false
  · rw [idxB_miss h, anyB_false.2 h]; rfl
  · have h2 : ∃ j, j < n ∧ p j = true := by
      apply Classical.byContradiction
      intro h3
      exact h fun j hj => by
        cases hp : p j with
        | false => rfl
        | true => exact absurd ⟨j, hj, hp⟩ h3
    rw [anyB_true.2 h2]
    have h4 : ∀ m, ∀ j, j < m → j < n → p j = true → ∃ i, i < n ∧ p i = true ∧ ∀ k, k < i → p k = false := by
      intro m
      induction m with
      | zero => intro j hj; omega
      | succ m ih =>
        intro j hj hn hp
        by_cases hall : ∀ k, k < j → p k = false
        · exact ⟨j, hn, hp, hall⟩
        · have : ∃ k, k < j ∧ p k = true := by
            apply Classical.byContradiction
            intro h3
            exact hall fun k hk => by
              cases hq : p k with
              | false => rfl
              | true => exact absurd ⟨k, hk, hq⟩ h3
          obtain ⟨k, hk, hq⟩ := this
          exact ih k (by omega) (by omega) hq
    obtain ⟨j, hj, hp⟩ := h2
    obtain ⟨i, hi, hpi, hk⟩ := h4 (j + 1) j (by omega) hj hp
    rw [idxB_hit hpi hk hi]
    simp
/-- The first number among n that is not 0, or 0. -/
def firstNZ (f : Nat → Int) : Nat → Int
  | 0 => 0
  | n + 1 => if firstNZ f n = 0 then f n else firstNZ f n
theorem firstNZ_zero {f : Nat → Int} : ∀ {n : Nat}, (∀ j, j < n → f j = 0) → firstNZ f n = 0
  | 0, _ => rfl
  | n + 1, h => by
    unfold firstNZ
    rw [firstNZ_zero fun j hj => h j (by omega), if_pos rfl, h n (by omega)]
theorem firstNZ_hit {f : Nat → Int} {i : Nat} (hp : f i ≠ 0) (h : ∀ j, j < i → f j = 0) : ∀ {n : Nat}, i < n → firstNZ f n = f i
  | 0, hi => absurd hi (by omega)
  | n + 1, hi => by
    unfold firstNZ
    by_cases e : i = n
    · subst e
      rw [firstNZ_zero h, if_pos rfl]
    · rw [firstNZ_hit hp h (by omega : i < n), if_neg hp]
def letterB (b : UInt8) : Bool := decide (97 ≤ b.toNat) && decide (b.toNat ≤ 122)
def digitB (b : UInt8) : Bool := decide (48 ≤ b.toNat) && decide (b.toNat ≤ 57)
def wcharB (b : UInt8) : Bool := letterB b || digitB b || b.toNat == 45
def wordL : List UInt8 → Bool
  | [] => false
  | c :: l => decide (l.length ≤ 11) && letterB c && (c :: l).all wcharB
def wordB (s : ByteArray) : Bool := wordL s.data.toList
def sameB (s t : ByteArray) : Bool := s.data.toList == t.data.toList
theorem sameB_true {s t : ByteArray} : sameB s t = true ↔ s = t := by
  unfold sameB
  rw [beq_iff_eq]
  exact ⟨fun h => ByteArray.ext (Array.toList_inj.1 h), fun h => by rw [h]⟩
theorem sameB_false {s t : ByteArray} : sameB s t = false ↔ s ≠ t := by
  rw [← Bool.not_eq_true, not_congr sameB_true]
def attrE (S : Sc) (i : Nat) : Int :=
  if wordB (S.name i) = false then 14
  else if anyB i (fun j => sameB (S.name j) (S.name i)) = true then 9
  else if S.kind i < 1 ∨ 3 < S.kind i then 7 else 0
def existsB (S : Sc) (a : Int) : Bool := decide (0 ≤ a) && decide (a ≤ S.na - 1)
def hasB (S : Sc) (i : Nat) (a : Int) : Bool := anyB (S.rn i) fun j => decide (a = S.rat i j)
def ascB (S : Sc) (i : Nat) : Bool := !anyB (S.rn i - 1) fun j => decide (S.rat i (j + 1) ≤ S.rat i j)
def relE (S : Sc) (i : Nat) : Int :=
  if wordB (S.rname i) = false then 14
  else if anyB i (fun j => sameB (S.rname j) (S.rname i)) = true then 9
  else if S.rn i = 0 then 7
  else if anyB (S.rn i) (fun j => !existsB S (S.rat i j)) = true then 2
  else if ascB S i = false then 10 else 0
def usedB (S : Sc) (a : Int) : Bool := anyB S.nr fun i => hasB S i a
def unusedB (S : Sc) : Bool := anyB S.na fun a => !usedB S a
def suitsB (k m kind : Int) : Bool :=
  if k = 1 then decide (kind = 2) && (decide (m = 0) || decide (m = 1)) else if k = 2 then decide (kind = 3) && decide (m = 0) else false
def featE (S : Sc) (i : Nat) : Int :=
  if existsB S (S.fa i) = false then 2
  else if suitsB (S.fk i) (S.fm i) (S.kind (S.fa i).toNat) = false then 7
  else if S.fa i = S.label ∨ anyB i (fun j => decide (S.fa j = S.fa i)) = true then 9 else 0
def labelE (S : Sc) : Int :=
  if S.label = -1 then 0
  else if existsB S S.label = false then 2
  else if S.kind S.label.toNat = 2 then 0 else 7
def sizesB (S : Sc) : Bool := decide (1 ≤ S.na) && decide (S.na ≤ 12) && (decide (1 ≤ S.nr) && decide (S.nr ≤ 6)) && decide (S.nf ≤ 8)
def checkE (S : Sc) : Int :=
  if sizesB S = false then 3
  else if firstNZ (attrE S) S.na ≠ 0 then firstNZ (attrE S) S.na
  else if firstNZ (relE S) S.nr ≠ 0 then firstNZ (relE S) S.nr
  else if unusedB S = true then 7
  else if firstNZ (featE S) S.nf ≠ 0 then firstNZ (featE S) S.nf
  else labelE S
/-- What makes a schema valid. -/
structure Valid (S : Sc) : Prop where
  na1 : 1 ≤ S.na
  na2 : S.na ≤ 12
  nr1 : 1 ≤ S.nr
  nr2 : S.nr ≤ 6
  nf2 : S.nf ≤ 8
  aw : ∀ i, i < S.na → wordB (S.name i) = true
  ad : ∀ i j, i < S.na → j < i → S.name j ≠ S.name i
  ak : ∀ i, i < S.na → 1 ≤ S.kind i ∧ S.kind i ≤ 3
  rw : ∀ i, i < S.nr → wordB (S.rname i) = true
  rd : ∀ i j, i < S.nr → j < i → S.rname j ≠ S.rname i
  rn : ∀ i, i < S.nr → 1 ≤ S.rn i
  rr : ∀ i j, i < S.nr → j < S.rn i → 0 ≤ S.rat i j ∧ S.rat i j < S.na
  ra : ∀ i j, i < S.nr → j + 1 < S.rn i → S.rat i j < S.rat i (j + 1)
  ru : ∀ a : Nat, a < S.na → ∃ i j, i < S.nr ∧ j < S.rn i ∧ S.rat i j = a
  fr : ∀ i, i < S.nf → 0 ≤ S.fa i ∧ S.fa i < S.na
  fs : ∀ i, i < S.nf → suitsB (S.fk i) (S.fm i) (S.kind (S.fa i).toNat) = true
  fl : ∀ i, i < S.nf → S.fa i ≠ S.label
  fd : ∀ i j, i < S.nf → j < i → S.fa j ≠ S.fa i
  lb : S.label = -1 ∨ (0 ≤ S.label ∧ S.label < S.na ∧ S.kind S.label.toNat = 2)
theorem existsB_true {S : Sc} {a : Int} : existsB S a = true ↔ 0 ≤ a ∧ a < S.na := by
  unfold existsB
  rw [Bool.and_eq_true, decide_eq_true_eq, decide_eq_true_eq]; omega
theorem existsB_false {S : Sc} {a : Int} : existsB S a = false ↔ ¬ (0 ≤ a ∧ a < S.na) := by
  rw [← Bool.not_eq_true, not_congr existsB_true]
theorem hasB_true {S : Sc} {i : Nat} {a : Int} : hasB S i a = true ↔ ∃ j, j < S.rn i ∧ S.rat i j = a := by
  unfold hasB
  rw [anyB_true]
  exact ⟨fun ⟨j, h, e⟩ => ⟨j, h, (of_decide_eq_true e).symm⟩, fun ⟨j, h, e⟩ => ⟨j, h, decide_eq_true e.symm⟩⟩
theorem usedB_true {S : Sc} {a : Int} : usedB S a = true ↔ ∃ i j, i < S.nr ∧ j < S.rn i ∧ S.rat i j = a := by
  unfold usedB
  rw [anyB_true]
  exact ⟨fun ⟨i, h, e⟩ => by obtain ⟨j, hj, e⟩ := hasB_true.1 e; exact ⟨i, j, h, hj, e⟩, fun ⟨i, j, h, hj, e⟩ => ⟨i, h, hasB_true.2 ⟨j, hj, e⟩⟩⟩
theorem Valid.attr {S : Sc} (h : Valid S) {i : Nat} (hi : i < S.na) : attrE S i = 0 := by
  unfold attrE
  rw [if_neg (by rw [h.aw i hi]; simp), if_neg (by rw [Bool.not_eq_true, anyB_false]; exact fun j hj => sameB_false.2 (h.ad i j hi hj)), if_neg (by have := h.ak i hi; omega)]
theorem Valid.rel {S : Sc} (h : Valid S) {i : Nat} (hi : i < S.nr) : relE S i = 0 := by
  unfold relE
  rw [if_neg (by rw [h.rw i hi]; simp), if_neg (by rw [Bool.not_eq_true, anyB_false]; exact fun j hj => sameB_false.2 (h.rd i j hi hj)), if_neg (by have := h.rn i hi; omega),
    if_neg (by rw [Bool.not_eq_true, anyB_false]; intro j hj; rw [existsB_true.2 (h.rr i j hi hj)]; rfl),
    if_neg (by
      unfold ascB
      rw [anyB_false.2 fun j hj => decide_eq_false (by have := h.ra i j hi (by omega); omega)]; simp)]
theorem Valid.used {S : Sc} (h : Valid S) : unusedB S = false := by
  unfold unusedB
  rw [anyB_false]
  intro a ha
  rw [usedB_true.2 (h.ru a ha)]; rfl
theorem Valid.feat {S : Sc} (h : Valid S) {i : Nat} (hi : i < S.nf) : featE S i = 0 := by
  unfold featE
  rw [if_neg (by rw [existsB_true.2 (h.fr i hi)]; simp), if_neg (by rw [h.fs i hi]; simp), if_neg (by
    rintro (e | e)
    · exact h.fl i hi e
    · obtain ⟨j, hj, e⟩ := anyB_true.1 e
      exact h.fd i j hi hj (of_decide_eq_true e))]
theorem Valid.label {S : Sc} (h : Valid S) : labelE S = 0 := by
  unfold labelE
  rcases h.lb with e | ⟨h0, h1, hk⟩
  · rw [if_pos e]
  · rw [if_neg (by omega), if_neg (by rw [existsB_true.2 ⟨h0, h1⟩]; simp), if_pos hk]
theorem Valid.sizes {S : Sc} (h : Valid S) : sizesB S = true := by
  have := h.na1; have := h.na2; have := h.nr1; have := h.nr2; have := h.nf2
  simp [sizesB, *]
theorem Valid.check {S : Sc} (h : Valid S) : checkE S = 0 := by
  unfold checkE
  rw [if_neg (by rw [h.sizes]; simp), firstNZ_zero fun i hi => h.attr hi, if_neg (by simp), firstNZ_zero fun i hi => h.rel hi, if_neg (by simp), if_neg (by rw [h.used]; simp), firstNZ_zero fun i hi => h.feat hi, if_neg (by simp), h.label]
end Go.Proofs.Ytiakgcaflnpmeaa
namespace Go.Proofs.Ytiakgcaflnpmeaa
open Go Go.RowKit

theorem ret_b {a b : Bool} (h : a = b) : Ending.returned (.bool b) = .returned (.bool a) := by rw [h]
theorem toList_same (s t : ByteArray) : (s.toList == t.toList) = sameB s t := by rw [Lib.toList_data, Lib.toList_data]; rfl
theorem letter_any (b : UInt8) (w : World) : Calls Try.prog 85 #[.int .u8 (b.toNat : Int)] w fun e w' => e = .returned (.bool (letterB b)) ∧ w' = w := by
  by_cases h1 : 97 ≤ b.toNat
  · have h2 : (97 : Int) ≤ (b.toNat : Int) := by omega
    by_cases h3 : b.toNat ≤ 122
    · have h4 : (b.toNat : Int) ≤ 122 := by omega
      have H := Lib.hid (show letterB b = true by simp [letterB, h1, h3])
      clear h1 h3
      go_enter Try.func85, Try.ntmps85
      go_wp2
      go_ret
      exact ⟨ret_b H.out, rfl⟩
    · have h4 : ¬ (b.toNat : Int) ≤ 122 := by omega
      have H := Lib.hid (show letterB b = false by simp [letterB, h1, h3])
      clear h1 h3
      go_enter Try.func85, Try.ntmps85
      go_wp2
      go_ret
      exact ⟨ret_b H.out, rfl⟩
  · have h2 : ¬ (97 : Int) ≤ (b.toNat : Int) := by omega
    have H := Lib.hid (show letterB b = false by simp [letterB, h1])
    clear h1
    go_enter Try.func85, Try.ntmps85
    go_wp2
    go_ret
    exact ⟨ret_b H.out, rfl⟩
theorem digit_any (b : UInt8) (w : World) : Calls Try.prog 86 #[.int .u8 (b.toNat : Int)] w fun e w' => e = .returned (.bool (digitB b)) ∧ w' = w := by
  by_cases h1 : 48 ≤ b.toNat
  · have h2 : (48 : Int) ≤ (b.toNat : Int) := by omega
    by_cases h3 : b.toNat ≤ 57
    · have h4 : (b.toNat : Int) ≤ 57 := by omega
      have H := Lib.hid (show digitB b = true by simp [digitB, h1, h3])
      clear h1 h3
      go_enter Try.func86, Try.ntmps86
      go_wp2
      go_ret
      exact ⟨ret_b H.out, rfl⟩
    · have h4 : ¬ (b.toNat : Int) ≤ 57 := by omega
      have H := Lib.hid (show digitB b = false by simp [digitB, h1, h3])
      clear h1 h3
      go_enter Try.func86, Try.ntmps86
      go_wp2
      go_ret
      exact ⟨ret_b H.out, rfl⟩
  · have h2 : ¬ (48 : Int) ≤ (b.toNat : Int) := by omega
    have H := Lib.hid (show digitB b = false by simp [digitB, h1])
    clear h1
    go_enter Try.func86, Try.ntmps86
    go_wp2
    go_ret
    exact ⟨ret_b H.out, rfl⟩
def betweenB (n lo hi : Int) : Bool := decide (lo ≤ n) && decide (n ≤ hi)
theorem between_any (n lo hi : Int) (w : World) : Calls Try.prog 68 #[.int .i64 n, .int .i64 lo, .int .i64 hi] w fun e w' => e = .returned (.bool (betweenB n lo hi)) ∧ w' = w := by
  by_cases h1 : lo ≤ n
  · by_cases h2 : n ≤ hi
    · have H := Lib.hid (show betweenB n lo hi = true by simp [betweenB, h1, h2])
      go_enter Try.func68, Try.ntmps68
      go_wp2
      go_ret
      exact ⟨ret_b H.out, rfl⟩
    · have H := Lib.hid (show betweenB n lo hi = false by simp [betweenB, h1, h2])
      go_enter Try.func68, Try.ntmps68
      go_wp2
      go_ret
      exact ⟨ret_b H.out, rfl⟩
  · have H := Lib.hid (show betweenB n lo hi = false by simp [betweenB, h1])
    go_enter Try.func68, Try.ntmps68
    go_wp2
    go_ret
    exact ⟨ret_b H.out, rfl⟩
theorem wordB_form {s : ByteArray} {h0 : 0 < s.size} (h1 : s.size ≤ 12) (h2 : letterB s[0] = true) (h3 : ∀ j (h : j < s.size), wcharB s[j] = true) : wordB s = true := by
  unfold wordB
  cases hl : s.data.toList with
  | nil => have : s.data.toList.length = 0 := by rw [hl]; rfl
           rw [Array.length_toList] at this; have h4 : s.data.size = s.size := rfl; omega
  | cons c l =>
    have hlen : s.data.toList.length = l.length + 1 := by rw [hl]; rfl
    rw [Array.length_toList] at hlen
    have h4 : s.data.size = s.size := rfl
    have hc : c = s[0] := by
      have : s.data.toList[0]'(by rw [Array.length_toList]; omega) = c := by simp [hl]
      rw [← this]; rfl
    have hall : (c :: l).all wcharB = true := by
      rw [← hl, List.all_eq_true]
      intro x hx
      obtain ⟨j, hj, rfl⟩ := List.getElem_of_mem hx
      exact h3 j (by rw [Array.length_toList] at hj; exact hj)
    show (decide (l.length ≤ 11) && letterB c && (c :: l).all wcharB) = true
    rw [hall, hc, h2, decide_eq_true (by omega)]; rfl
theorem wordB_char {s : ByteArray} {j : Nat} (h : j < s.size) (hc : wcharB s[j] = false) : wordB s = false := by
  cases hw : wordB s with
  | false => rfl
  | true =>
    exfalso
    unfold wordB at hw
    cases hl : s.data.toList with
    | nil => rw [hl] at hw; exact absurd hw (by decide)
    | cons c l =>
      rw [hl] at hw
      have h1 : (c :: l).all wcharB = true := by
        have h2 : (decide (l.length ≤ 11) && letterB c && (c :: l).all wcharB) = true := hw
        rw [Bool.and_eq_true] at h2; exact h2.2
      rw [← hl, List.all_eq_true] at h1
      have h3 := h1 s[j] (Array.getElem_mem_toList (xs := s.data) h)
      rw [hc] at h3; exact absurd h3 (by decide)
theorem wordB_first {s : ByteArray} (h : 0 < s.size) (hc : letterB s[0] = false) : wordB s = false := by
  unfold wordB
  cases hl : s.data.toList with
  | nil => rfl
  | cons c l =>
    have e : c = s[0] := by
      have : s.data.toList[0]'(by rw [Array.length_toList]; exact h) = c := by simp [hl]
      rw [← this]; rfl
    show (decide (l.length ≤ 11) && letterB c && (c :: l).all wcharB) = false
    rw [e, hc, Bool.and_false]; rfl
theorem wordB_long {s : ByteArray} (h : 12 < s.size) : wordB s = false := by
  unfold wordB
  cases hl : s.data.toList with
  | nil => rfl
  | cons c l =>
    have hlen : s.data.toList.length = l.length + 1 := by rw [hl]; rfl
    rw [Array.length_toList] at hlen
    have h4 : s.data.size = s.size := rfl
    show (decide (l.length ≤ 11) && letterB c && (c :: l).all wcharB) = false
    rw [decide_eq_false (by omega)]; rfl
theorem wordB_none {s : ByteArray} (h : s.size = 0) : wordB s = false := by
  unfold wordB
  cases hl : s.data.toList with
  | nil => rfl
  | cons c l =>
    have hlen : s.data.toList.length = l.length + 1 := by rw [hl]; rfl
    rw [Array.length_toList] at hlen
    have h4 : s.data.size = s.size := rfl
    omega
theorem empty_of {s : ByteArray} (h : s.size = 0) : s.toList = [] ∧ (s.toList == []) = true := by
  have : s.toList = [] := by
    rw [Lib.toList_data]
    apply List.eq_nil_of_length_eq_zero
    rw [Array.length_toList]; exact h
  exact ⟨this, by rw [this]; rfl⟩
theorem nonempty_of {s : ByteArray} (h : 0 < s.size) : (s.toList == []) = false := by
  rw [Lib.toList_data, beq_eq_false_iff_ne]
  intro e
  have h2 : s.data.toList.length = 0 := by rw [e]; rfl
  rw [Array.length_toList] at h2
  have h4 : s.data.size = s.size := rfl
  omega
set_option maxHeartbeats 1600000 in
theorem sword_any (s : ByteArray) (w : World) (hs : s.size ≤ maxLen) : Calls Try.prog 69 #[.string s] w fun e w' => e = .returned (.bool (wordB s)) ∧ w' = w := by
  unfold maxLen at hs
  by_cases h0 : s.size = 0
  · obtain ⟨he, he2⟩ := empty_of h0
    have H := Lib.hid (wordB_none h0)
    clear h0
    go_enter Try.func69, Try.ntmps69
    go_wp2
    go_ret
    exact ⟨ret_b H.out, rfl⟩
  · have he : (s.toList == []) = false := nonempty_of (by omega)
    by_cases h1 : 12 < s.size
    · have H := Lib.hid (wordB_long h1)
      have h2 : (12 : Int) < (s.size : Int) := by omega
      go_enter Try.func69, Try.ntmps69
      go_wp2
      go_ret
      exact ⟨ret_b H.out, rfl⟩
    · have hp : 0 < s.size := by omega
      cases hl : letterB s[0] with
      | false =>
        have H := Lib.hid (And.intro (wordB_first hp hl) hl)
        clear hl
        go_enter Try.func69, Try.ntmps69
        go_wp2_with fail
        refine (letter_any _ _).mono ?_
        rw [H.out.2]
        rintro e w' ⟨rfl, rfl⟩
        go_wp2
        go_ret
        exact ⟨ret_b H.out.1, rfl⟩
      | true =>
        have H := Lib.hid hl
        clear hl
        go_enter Try.func69, Try.ntmps69
        go_wp2_with fail
        refine (letter_any _ _).mono ?_
        rw [H.out]
        rintro e w' ⟨rfl, rfl⟩
        go_wp2_with fail
        go_loop [19] (fun iv => ∃ i : Nat, i ≤ s.size ∧ iv = .int .i64 (i : Int) ∧ ∀ j (h : j < s.size), j < i → wcharB s[j] = true) (fun iv => s.size - (intOf iv).toNat)
        case atStart => exact ⟨0, Nat.zero_le _, rfl, fun _ _ h => absurd h (by omega)⟩
        case round =>
          obtain ⟨i, hi, rfl, hall⟩ := hrel
          have HA := Lib.hid hall
          clear hall
          by_cases hlt : i < s.size
          · obtain ⟨c, hc⟩ : ∃ c, c = s[i] := ⟨_, rfl⟩
            have HC := Lib.hid hc
            cases hl : letterB c with
            | true =>
              have HL := Lib.hid hl
              clear hl
              go_wp2_with fail
              rw [← hc]
              refine (letter_any _ _).mono ?_
              rw [HL.out]
              rintro e w' ⟨rfl, rfl⟩
              clear hc
              go_wp2
              go_round
              case rel => exact ⟨i + 1, by omega, by go_num, fun j h hj => by
                by_cases e : j = i
                · subst e; rw [← HC.out]; simp [wcharB, HL.out]
                · exact HA.out j h (by omega)⟩
              case measure => simp [intOf]; omega
            | false =>
              cases hd : digitB c with
              | true =>
                have HL := Lib.hid (And.intro hl hd)
                clear hl hd
                go_wp2_with fail
                rw [← hc]
                refine (letter_any _ _).mono ?_
                rw [HL.out.1]
                rintro e w' ⟨rfl, rfl⟩
                go_wp2_with fail
                rw [← hc]
                refine (digit_any _ _).mono ?_
                rw [HL.out.2]
                rintro e w' ⟨rfl, rfl⟩
                clear hc
                go_wp2
                go_round
                case rel => exact ⟨i + 1, by omega, by go_num, fun j h hj => by
                  by_cases e : j = i
                  · subst e; rw [← HC.out]; simp [wcharB, HL.out.2]
                  · exact HA.out j h (by omega)⟩
                case measure => simp [intOf]; omega
              | false =>
                have HL := Lib.hid (And.intro hl hd)
                clear hl hd
                go_wp2_with fail
                rw [← hc]
                refine (letter_any _ _).mono ?_
                rw [HL.out.1]
                rintro e w' ⟨rfl, rfl⟩
                go_wp2_with fail
                rw [← hc]
                refine (digit_any _ _).mono ?_
                rw [HL.out.2]
                rintro e w' ⟨rfl, rfl⟩
                by_cases h45 : s[i].toNat = 45
                · have h45b : ((s[i].toNat : Int) == 45) = true := by rw [beq_iff_eq]; omega
                  have h45i : (s[i].toNat : Int) = 45 := by omega
                  have H45 := Lib.hid h45
                  clear hc h45
                  go_wp2
                  go_round
                  case rel => exact ⟨i + 1, by omega, by go_num, fun j h hj => by
                    by_cases e : j = i
                    · subst e; unfold wcharB; rw [Bool.or_eq_true]; exact .inr (by rw [beq_iff_eq]; exact H45.out)
                    · exact HA.out j h (by omega)⟩
                  case measure => simp [intOf]; omega
                · have h45b : ((s[i].toNat : Int) == 45) = false := by rw [beq_eq_false_iff_ne]; omega
                  have h45i : ¬ (s[i].toNat : Int) = 45 := by omega
                  have hbad : wcharB s[i] = false := by
                    rw [← hc]; unfold wcharB
                    rw [HL.out.1, HL.out.2]
                    show (c.toNat == 45) = false
                    rw [beq_eq_false_iff_ne, hc]; exact h45
                  have HB := Lib.hid (wordB_char hlt hbad)
                  clear hc h45 hbad
                  go_wp2
                  go_ret
                  exact ⟨ret_b HB.out, rfl⟩
          · have ein : i = s.size := by omega
            have HW := Lib.hid (wordB_form (h0 := hp) (by omega) H.out fun j h => HA.out j h (by omega))
            subst ein
            go_wp2
            go_ret
            exact ⟨ret_b HW.out, rfl⟩
end Go.Proofs.Ytiakgcaflnpmeaa
namespace Go.Proofs.Ytiakgcaflnpmeaa
open Go Go.RowKit

/-- A predicate on the elements val 0 .. val (n - 1): it gives p and leaves what lay there. -/
def PredB (g : Nat) (lb : Array Value) (val : Nat → Value) (n : Nat) (p : Nat → Bool) (w : World) : Prop :=
  ∀ (W : World) (j : Nat), j < n → Below w.heap.size w W → Calls Try.prog g (#[val j] ++ lb) W fun e w' => e = .returned (.bool (p j)) ∧ Below W.heap.size W w'
theorem Below.step {w W w' : World} (h : Below w.heap.size w W) (h' : Below W.heap.size W w') : Below w.heap.size w w' := h.trans (h'.mono h.size)
theorem below_drew (w : World) : Below w.heap.size w w.drew := (Drawn.refl w).drewN 1 |>.below _

theorem ret_i {a b : Int} (h : a = b) : Ending.returned (.int .i64 b) = .returned (.int .i64 a) := by rw [h]
theorem ret_b' {a b : Bool} (h : a = b) : Ending.returned (.bool a) = .returned (.bool b) := by rw [h]
def AttrAt (w : World) (A : Option Addr) (n : Nat) (f : Nat → ByteArray) (h : Nat → Int) : Prop :=
  0 < n → ∃ b off, A = some ⟨b, off, none⟩ ∧ b < w.heap.size ∧ ∀ i, i < n → w.cell? ⟨b, off + i * 2, none⟩ = some (.string (f i)) ∧ w.cell? ⟨b, off + i * 2 + 1, none⟩ = some (.int .i64 (h i))
theorem AttrAt.below {w w' : World} {A : Option Addr} {n : Nat} {f : Nat → ByteArray} {h : Nat → Int} (h0 : AttrAt w A n f h) (hb : Below w.heap.size w w') : AttrAt w' A n f h := by
  intro hn
  obtain ⟨b, off, e, hl, hc⟩ := h0 hn
  exact ⟨b, off, e, Nat.lt_of_lt_of_le hl hb.size, fun i hi => ⟨(hb.cell hl).trans (hc i hi).1, (hb.cell hl).trans (hc i hi).2⟩⟩
def AttrVal (f : Nat → ByteArray) (h : Nat → Int) (i : Nat) : Value := .agg #[.string (f i), .int .i64 (h i)]
set_option maxHeartbeats 1600000 in
theorem idx_attr {w : World} {A : Option Addr} {n c : Nat} {f : Nat → ByteArray} {h : Nat → Int} {g : Nat} {lb : Array Value} {p : Nat → Bool} (eg : ∀ args w, (callFunc g args).run Try.prog w = .ok (.enter g args) w) (hn : n ≤ 1000)
    (ha : AttrAt w A n f h) (hp : PredB g lb (AttrVal f h) n p w) :
    Calls Try.prog 87 #[.slice A n c, .func (.func g) #[] lb] w fun e w' => e = .returned (.int .i64 (idxB p n)) ∧ Below w.heap.size w w' := by
  have H := Lib.hid (And.intro ha hp)
  clear ha hp
  go_enter Try.func87, Try.ntmps87
  go_wp2_with fail
  go_loopg [5, 8] n (fun gg _ s8 wr => ∃ i : Nat, i + gg = n ∧ s8 = .int .i64 (i : Int) ∧ Hid (Below w.heap.size w wr ∧ ∀ j, j < i → p j = false))
  case atStart => exact ⟨0, by omega, rfl, Lib.hid ⟨Below.refl _ _, fun _ h => absurd h (by omega)⟩⟩
  case round =>
    obtain ⟨i, hi, rfl, HR⟩ := hrel
    by_cases hlt : i < n
    · obtain ⟨b, off, rfl, hbl, hc⟩ := (H.out.1.below HR.out.1) (by omega)
      obtain ⟨c0, c1⟩ := hc i hlt
      have hcall := H.out.2 wr i hlt HR.out.1
      simp only [AttrVal] at hcall
      have HI := Lib.hid (And.intro hbl hc)
      clear hbl hc
      cases hq : p i with
      | true =>
        rw [hq] at hcall
        have HQ := Lib.hid hq
        clear hq
        go_wp2_with fail
        refine hcall.mono ?_
        rintro e w' ⟨rfl, hb'⟩
        go_wp2
        go_ret
        exact ⟨ret_i (idxB_hit HQ.out HR.out.2 hlt), Below.step HR.out.1 hb'⟩
      | false =>
        rw [hq] at hcall
        have HQ := Lib.hid hq
        clear hq
        go_wp2_with fail
        refine hcall.mono ?_
        rintro e w' ⟨rfl, hb'⟩
        go_wp2
        go_roundg (n - (i + 1))
        case measure => omega
        case rel => exact ⟨i + 1, by omega, by go_num, Lib.hid ⟨Below.step HR.out.1 hb', fun j hj => by
          by_cases e : j = i
          · rw [e]; exact HQ.out
          · exact HR.out.2 j (by omega)⟩⟩
    · have ein : n = i := by omega
      subst ein
      go_wp2
      go_ret
      exact ⟨ret_i (idxB_miss HR.out.2), HR.out.1⟩
theorem any_attr {w : World} {A : Option Addr} {n c : Nat} {f : Nat → ByteArray} {h : Nat → Int} {g : Nat} {lb : Array Value} {p : Nat → Bool} (eg : ∀ args w, (callFunc g args).run Try.prog w = .ok (.enter g args) w) (hn : n ≤ 1000)
    (ha : AttrAt w A n f h) (hp : PredB g lb (AttrVal f h) n p w) :
    Calls Try.prog 70 #[.slice A n c, .func (.func g) #[] lb] w fun e w' => e = .returned (.bool (anyB n p)) ∧ Below w.heap.size w w' := by
  have hcon := idx_attr (c := c) eg hn ha hp
  have hany := idxB_any (p := p) n
  obtain ⟨r, hr⟩ : ∃ r, r = idxB p n := ⟨_, rfl⟩
  rw [← hr] at hcon hany
  have HA := Lib.hid hany
  clear hany hr ha hp
  go_enter Try.func70, Try.ntmps70
  go_wp2_with fail
  refine hcon.mono ?_
  rintro e w' ⟨rfl, hb⟩
  go_wp2
  go_ret
  exact ⟨ret_b' HA.out, hb⟩
def RelAt (w : World) (A : Option Addr) (n : Nat) (f : Nat → ByteArray) (h : Nat → Option Addr × Nat × Nat) : Prop :=
  0 < n → ∃ b off, A = some ⟨b, off, none⟩ ∧ b < w.heap.size ∧ ∀ i, i < n → w.cell? ⟨b, off + i * 2, none⟩ = some (.string (f i)) ∧ w.cell? ⟨b, off + i * 2 + 1, none⟩ = some (.slice (h i).1 (h i).2.1 (h i).2.2)
theorem RelAt.below {w w' : World} {A : Option Addr} {n : Nat} {f : Nat → ByteArray} {h : Nat → Option Addr × Nat × Nat} (h0 : RelAt w A n f h) (hb : Below w.heap.size w w') : RelAt w' A n f h := by
  intro hn
  obtain ⟨b, off, e, hl, hc⟩ := h0 hn
  exact ⟨b, off, e, Nat.lt_of_lt_of_le hl hb.size, fun i hi => ⟨(hb.cell hl).trans (hc i hi).1, (hb.cell hl).trans (hc i hi).2⟩⟩
def RelVal (f : Nat → ByteArray) (h : Nat → Option Addr × Nat × Nat) (i : Nat) : Value := .agg #[.string (f i), .slice (h i).1 (h i).2.1 (h i).2.2]
set_option maxHeartbeats 1600000 in
theorem idx_rel {w : World} {A : Option Addr} {n c : Nat} {f : Nat → ByteArray} {h : Nat → Option Addr × Nat × Nat} {g : Nat} {lb : Array Value} {p : Nat → Bool} (eg : ∀ args w, (callFunc g args).run Try.prog w = .ok (.enter g args) w) (hn : n ≤ 1000)
    (ha : RelAt w A n f h) (hp : PredB g lb (RelVal f h) n p w) :
    Calls Try.prog 88 #[.slice A n c, .func (.func g) #[] lb] w fun e w' => e = .returned (.int .i64 (idxB p n)) ∧ Below w.heap.size w w' := by
  have H := Lib.hid (And.intro ha hp)
  clear ha hp
  go_enter Try.func88, Try.ntmps88
  go_wp2_with fail
  go_loopg [5, 8] n (fun gg _ s8 wr => ∃ i : Nat, i + gg = n ∧ s8 = .int .i64 (i : Int) ∧ Hid (Below w.heap.size w wr ∧ ∀ j, j < i → p j = false))
  case atStart => exact ⟨0, by omega, rfl, Lib.hid ⟨Below.refl _ _, fun _ h => absurd h (by omega)⟩⟩
  case round =>
    obtain ⟨i, hi, rfl, HR⟩ := hrel
    by_cases hlt : i < n
    · obtain ⟨b, off, rfl, hbl, hc⟩ := (H.out.1.below HR.out.1) (by omega)
      obtain ⟨c0, c1⟩ := hc i hlt
      have hcall := H.out.2 wr i hlt HR.out.1
      simp only [RelVal] at hcall
      have HI := Lib.hid (And.intro hbl hc)
      clear hbl hc
      cases hq : p i with
      | true =>
        rw [hq] at hcall
        have HQ := Lib.hid hq
        clear hq
        go_wp2_with fail
        refine hcall.mono ?_
        rintro e w' ⟨rfl, hb'⟩
        go_wp2
        go_ret
        exact ⟨ret_i (idxB_hit HQ.out HR.out.2 hlt), Below.step HR.out.1 hb'⟩
      | false =>
        rw [hq] at hcall
        have HQ := Lib.hid hq
        clear hq
        go_wp2_with fail
        refine hcall.mono ?_
        rintro e w' ⟨rfl, hb'⟩
        go_wp2
        go_roundg (n - (i + 1))
        case measure => omega
        case rel => exact ⟨i + 1, by omega, by go_num, Lib.hid ⟨Below.step HR.out.1 hb', fun j hj => by
          by_cases e : j = i
          · rw [e]; exact HQ.out
          · exact HR.out.2 j (by omega)⟩⟩
    · have ein : n = i := by omega
      subst ein
      go_wp2
      go_ret
      exact ⟨ret_i (idxB_miss HR.out.2), HR.out.1⟩
theorem any_rel {w : World} {A : Option Addr} {n c : Nat} {f : Nat → ByteArray} {h : Nat → Option Addr × Nat × Nat} {g : Nat} {lb : Array Value} {p : Nat → Bool} (eg : ∀ args w, (callFunc g args).run Try.prog w = .ok (.enter g args) w) (hn : n ≤ 1000)
    (ha : RelAt w A n f h) (hp : PredB g lb (RelVal f h) n p w) :
    Calls Try.prog 72 #[.slice A n c, .func (.func g) #[] lb] w fun e w' => e = .returned (.bool (anyB n p)) ∧ Below w.heap.size w w' := by
  have hcon := idx_rel (c := c) eg hn ha hp
  have hany := idxB_any (p := p) n
  obtain ⟨r, hr⟩ : ∃ r, r = idxB p n := ⟨_, rfl⟩
  rw [← hr] at hcon hany
  have HA := Lib.hid hany
  clear hany hr ha hp
  go_enter Try.func72, Try.ntmps72
  go_wp2_with fail
  refine hcon.mono ?_
  rintro e w' ⟨rfl, hb⟩
  go_wp2
  go_ret
  exact ⟨ret_b' HA.out, hb⟩
def FeatAt (w : World) (A : Option Addr) (n : Nat) (f h k : Nat → Int) : Prop :=
  0 < n → ∃ b off, A = some ⟨b, off, none⟩ ∧ b < w.heap.size ∧ ∀ i, i < n → w.cell? ⟨b, off + i * 3, none⟩ = some (.int .i64 (f i)) ∧ w.cell? ⟨b, off + i * 3 + 1, none⟩ = some (.int .i64 (h i)) ∧ w.cell? ⟨b, off + i * 3 + 2, none⟩ = some (.int .i64 (k i))
theorem FeatAt.below {w w' : World} {A : Option Addr} {n : Nat} {f h k : Nat → Int} (h0 : FeatAt w A n f h k) (hb : Below w.heap.size w w') : FeatAt w' A n f h k := by
  intro hn
  obtain ⟨b, off, e, hl, hc⟩ := h0 hn
  exact ⟨b, off, e, Nat.lt_of_lt_of_le hl hb.size, fun i hi => ⟨(hb.cell hl).trans (hc i hi).1, (hb.cell hl).trans (hc i hi).2.1, (hb.cell hl).trans (hc i hi).2.2⟩⟩
def FeatVal (f h k : Nat → Int) (i : Nat) : Value := .agg #[.int .i64 (f i), .int .i64 (h i), .int .i64 (k i)]
set_option maxHeartbeats 1600000 in
theorem idx_feat {w : World} {A : Option Addr} {n c : Nat} {f h k : Nat → Int} {g : Nat} {lb : Array Value} {p : Nat → Bool} (eg : ∀ args w, (callFunc g args).run Try.prog w = .ok (.enter g args) w) (hn : n ≤ 1000)
    (ha : FeatAt w A n f h k) (hp : PredB g lb (FeatVal f h k) n p w) :
    Calls Try.prog 89 #[.slice A n c, .func (.func g) #[] lb] w fun e w' => e = .returned (.int .i64 (idxB p n)) ∧ Below w.heap.size w w' := by
  have H := Lib.hid (And.intro ha hp)
  clear ha hp
  go_enter Try.func89, Try.ntmps89
  go_wp2_with fail
  go_loopg [5, 8] n (fun gg _ s8 wr => ∃ i : Nat, i + gg = n ∧ s8 = .int .i64 (i : Int) ∧ Hid (Below w.heap.size w wr ∧ ∀ j, j < i → p j = false))
  case atStart => exact ⟨0, by omega, rfl, Lib.hid ⟨Below.refl _ _, fun _ h => absurd h (by omega)⟩⟩
  case round =>
    obtain ⟨i, hi, rfl, HR⟩ := hrel
    by_cases hlt : i < n
    · obtain ⟨b, off, rfl, hbl, hc⟩ := (H.out.1.below HR.out.1) (by omega)
      obtain ⟨c0, c1, c2⟩ := hc i hlt
      have hcall := H.out.2 wr i hlt HR.out.1
      simp only [FeatVal] at hcall
      have HI := Lib.hid (And.intro hbl hc)
      clear hbl hc
      cases hq : p i with
      | true =>
        rw [hq] at hcall
        have HQ := Lib.hid hq
        clear hq
        go_wp2_with fail
        refine hcall.mono ?_
        rintro e w' ⟨rfl, hb'⟩
        go_wp2
        go_ret
        exact ⟨ret_i (idxB_hit HQ.out HR.out.2 hlt), Below.step HR.out.1 hb'⟩
      | false =>
        rw [hq] at hcall
        have HQ := Lib.hid hq
        clear hq
        go_wp2_with fail
        refine hcall.mono ?_
        rintro e w' ⟨rfl, hb'⟩
        go_wp2
        go_roundg (n - (i + 1))
        case measure => omega
        case rel => exact ⟨i + 1, by omega, by go_num, Lib.hid ⟨Below.step HR.out.1 hb', fun j hj => by
          by_cases e : j = i
          · rw [e]; exact HQ.out
          · exact HR.out.2 j (by omega)⟩⟩
    · have ein : n = i := by omega
      subst ein
      go_wp2
      go_ret
      exact ⟨ret_i (idxB_miss HR.out.2), HR.out.1⟩
theorem any_feat {w : World} {A : Option Addr} {n c : Nat} {f h k : Nat → Int} {g : Nat} {lb : Array Value} {p : Nat → Bool} (eg : ∀ args w, (callFunc g args).run Try.prog w = .ok (.enter g args) w) (hn : n ≤ 1000)
    (ha : FeatAt w A n f h k) (hp : PredB g lb (FeatVal f h k) n p w) :
    Calls Try.prog 80 #[.slice A n c, .func (.func g) #[] lb] w fun e w' => e = .returned (.bool (anyB n p)) ∧ Below w.heap.size w w' := by
  have hcon := idx_feat (c := c) eg hn ha hp
  have hany := idxB_any (p := p) n
  obtain ⟨r, hr⟩ : ∃ r, r = idxB p n := ⟨_, rfl⟩
  rw [← hr] at hcon hany
  have HA := Lib.hid hany
  clear hany hr ha hp
  go_enter Try.func80, Try.ntmps80
  go_wp2_with fail
  refine hcon.mono ?_
  rintro e w' ⟨rfl, hb⟩
  go_wp2
  go_ret
  exact ⟨ret_b' HA.out, hb⟩
def IntAt (w : World) (A : Option Addr) (n : Nat) (f : Nat → Int) : Prop :=
  0 < n → ∃ b off, A = some ⟨b, off, none⟩ ∧ b < w.heap.size ∧ ∀ i, i < n → w.cell? ⟨b, off + i, none⟩ = some (.int .i64 (f i))
theorem IntAt.below {w w' : World} {A : Option Addr} {n : Nat} {f : Nat → Int} (h0 : IntAt w A n f) (hb : Below w.heap.size w w') : IntAt w' A n f := by
  intro hn
  obtain ⟨b, off, e, hl, hc⟩ := h0 hn
  exact ⟨b, off, e, Nat.lt_of_lt_of_le hl hb.size, fun i hi => (hb.cell hl).trans (hc i hi)⟩
def IntVal (f : Nat → Int) (i : Nat) : Value := .int .i64 (f i)
set_option maxHeartbeats 1600000 in
theorem idx_int {w : World} {A : Option Addr} {n c : Nat} {f : Nat → Int} {g : Nat} {lb : Array Value} {p : Nat → Bool} (eg : ∀ args w, (callFunc g args).run Try.prog w = .ok (.enter g args) w) (hn : n ≤ 1000)
    (ha : IntAt w A n f) (hp : PredB g lb (IntVal f) n p w) :
    Calls Try.prog 83 #[.slice A n c, .func (.func g) #[] lb] w fun e w' => e = .returned (.int .i64 (idxB p n)) ∧ Below w.heap.size w w' := by
  have H := Lib.hid (And.intro ha hp)
  clear ha hp
  go_enter Try.func83, Try.ntmps83
  go_wp2_with fail
  go_loopg [5, 8] n (fun gg _ s8 wr => ∃ i : Nat, i + gg = n ∧ s8 = .int .i64 (i : Int) ∧ Hid (Below w.heap.size w wr ∧ ∀ j, j < i → p j = false))
  case atStart => exact ⟨0, by omega, rfl, Lib.hid ⟨Below.refl _ _, fun _ h => absurd h (by omega)⟩⟩
  case round =>
    obtain ⟨i, hi, rfl, HR⟩ := hrel
    by_cases hlt : i < n
    · obtain ⟨b, off, rfl, hbl, hc⟩ := (H.out.1.below HR.out.1) (by omega)
      obtain c0 := hc i hlt
      have hcall := H.out.2 wr i hlt HR.out.1
      simp only [IntVal] at hcall
      have HI := Lib.hid (And.intro hbl hc)
      clear hbl hc
      cases hq : p i with
      | true =>
        rw [hq] at hcall
        have HQ := Lib.hid hq
        clear hq
        go_wp2_with fail
        refine hcall.mono ?_
        rintro e w' ⟨rfl, hb'⟩
        go_wp2
        go_ret
        exact ⟨ret_i (idxB_hit HQ.out HR.out.2 hlt), Below.step HR.out.1 hb'⟩
      | false =>
        rw [hq] at hcall
        have HQ := Lib.hid hq
        clear hq
        go_wp2_with fail
        refine hcall.mono ?_
        rintro e w' ⟨rfl, hb'⟩
        go_wp2
        go_roundg (n - (i + 1))
        case measure => omega
        case rel => exact ⟨i + 1, by omega, by go_num, Lib.hid ⟨Below.step HR.out.1 hb', fun j hj => by
          by_cases e : j = i
          · rw [e]; exact HQ.out
          · exact HR.out.2 j (by omega)⟩⟩
    · have ein : n = i := by omega
      subst ein
      go_wp2
      go_ret
      exact ⟨ret_i (idxB_miss HR.out.2), HR.out.1⟩
theorem any_int {w : World} {A : Option Addr} {n c : Nat} {f : Nat → Int} {g : Nat} {lb : Array Value} {p : Nat → Bool} (eg : ∀ args w, (callFunc g args).run Try.prog w = .ok (.enter g args) w) (hn : n ≤ 1000)
    (ha : IntAt w A n f) (hp : PredB g lb (IntVal f) n p w) :
    Calls Try.prog 59 #[.slice A n c, .func (.func g) #[] lb] w fun e w' => e = .returned (.bool (anyB n p)) ∧ Below w.heap.size w w' := by
  have hcon := idx_int (c := c) eg hn ha hp
  have hany := idxB_any (p := p) n
  obtain ⟨r, hr⟩ : ∃ r, r = idxB p n := ⟨_, rfl⟩
  rw [← hr] at hcon hany
  have HA := Lib.hid hany
  clear hany hr ha hp
  go_enter Try.func59, Try.ntmps59
  go_wp2_with fail
  refine hcon.mono ?_
  rintro e w' ⟨rfl, hb⟩
  go_wp2
  go_ret
  exact ⟨ret_b' HA.out, hb⟩
end Go.Proofs.Ytiakgcaflnpmeaa
namespace Go.Proofs.Ytiakgcaflnpmeaa
open Go Go.RowKit

theorem take_of {n m : Nat} {P : Prop} (h : 0 < n → P) (hm : m ≤ n) : 0 < m → P := fun h0 => h (by omega)
theorem AttrAt.take {w : World} {A : Option Addr} {n m : Nat} {f : Nat → ByteArray} {h : Nat → Int} (ha : AttrAt w A n f h) (hm : m ≤ n) : AttrAt w A m f h := fun h0 => by
  obtain ⟨b, off, e, hl, hc⟩ := ha (by omega)
  exact ⟨b, off, e, hl, fun i hi => hc i (by omega)⟩
theorem RelAt.take {w : World} {A : Option Addr} {n m : Nat} {f : Nat → ByteArray} {h : Nat → Option Addr × Nat × Nat} (ha : RelAt w A n f h) (hm : m ≤ n) : RelAt w A m f h := fun h0 => by
  obtain ⟨b, off, e, hl, hc⟩ := ha (by omega)
  exact ⟨b, off, e, hl, fun i hi => hc i (by omega)⟩
theorem FeatAt.take {w : World} {A : Option Addr} {n m : Nat} {f h k : Nat → Int} (ha : FeatAt w A n f h k) (hm : m ≤ n) : FeatAt w A m f h k := fun h0 => by
  obtain ⟨b, off, e, hl, hc⟩ := ha (by omega)
  exact ⟨b, off, e, hl, fun i hi => hc i (by omega)⟩
/-- A schema's slices. -/
structure Sv where
  A : Option Addr
  ca : Nat
  R : Option Addr
  cr : Nat
  F : Option Addr
  cf : Nat
  L : Nat → Option Addr × Nat × Nat
/-- The schema S lies where V says. -/
structure SchIn (w : World) (S : Sc) (V : Sv) : Prop where
  attr : AttrAt w V.A S.na S.name S.kind
  rel : RelAt w V.R S.nr S.rname V.L
  feat : FeatAt w V.F S.nf S.fa S.fk S.fm
  ints : ∀ i, i < S.nr → (V.L i).2.1 = S.rn i ∧ S.rn i ≤ 1000 ∧ IntAt w (V.L i).1 (S.rn i) (S.rat i)
  na : S.na ≤ 1000
  nr : S.nr ≤ 1000
  nf : S.nf ≤ 1000
  ca : S.na ≤ V.ca
  cr : S.nr ≤ V.cr
  cf : S.nf ≤ V.cf
  cam : V.ca ≤ maxLen
  crm : V.cr ≤ maxLen
  cfm : V.cf ≤ maxLen
  ns : ∀ i, i < S.na → (S.name i).size ≤ maxLen
  rs : ∀ i, i < S.nr → (S.rname i).size ≤ maxLen
theorem SchIn.below {w w' : World} {S : Sc} {V : Sv} (h : SchIn w S V) (hb : Below w.heap.size w w') : SchIn w' S V :=
  ⟨h.attr.below hb, h.rel.below hb, h.feat.below hb, fun i hi => ⟨(h.ints i hi).1, (h.ints i hi).2.1, (h.ints i hi).2.2.below hb⟩, h.na, h.nr, h.nf, h.ca, h.cr, h.cf, h.cam, h.crm, h.cfm, h.ns, h.rs⟩
set_option maxHeartbeats 1600000 in
theorem index_ints {w : World} {A : Option Addr} {n c : Nat} {x : Nat → Int} {a : Int} (hn : n ≤ 1000) (h : IntAt w A n x) :
    Calls Try.prog 82 #[.slice A n c, .int .i64 a] w fun e w' => e = .returned (.int .i64 (idxB (fun j => decide (a = x j)) n)) ∧ w' = w := by
  have H := Lib.hid h
  clear h
  go_enter Try.func82, Try.ntmps82
  go_wp2_with fail
  go_loop [5, 8] (fun _ s8 => ∃ i : Nat, i ≤ n ∧ s8 = .int .i64 (i : Int) ∧ Hid (∀ j, j < i → decide (a = x j) = false)) (fun _ s8 => n - (intOf s8).toNat)
  case atStart => exact ⟨0, by omega, rfl, Lib.hid (fun _ h => absurd h (by omega))⟩
  case round =>
    obtain ⟨i, hi, rfl, HR⟩ := hrel
    by_cases hlt : i < n
    · obtain ⟨b, off, rfl, hbl, hc⟩ := H.out (by omega)
      have c0 := hc i hlt
      have HI := Lib.hid (And.intro hbl hc)
      clear hbl hc
      obtain ⟨y, hy⟩ : ∃ y, y = x i := ⟨_, rfl⟩
      rw [← hy] at c0
      have HY := Lib.hid hy
      clear hy
      by_cases hq : a = y
      · have hqb : (a == y) = true := by rw [beq_iff_eq]; exact hq
        have HQ := Lib.hid (show decide (a = x i) = true by rw [← HY.out]; exact decide_eq_true hq)
        clear hq
        go_wp2
        go_ret
        exact ⟨ret_i (idxB_hit (p := fun j => decide (a = x j)) HQ.out HR.out hlt), rfl⟩
      · have hqb : (a == y) = false := by rw [beq_eq_false_iff_ne]; exact hq
        have HQ := Lib.hid (show decide (a = x i) = false by rw [← HY.out]; exact decide_eq_false hq)
        go_wp2
        go_round
        case rel => exact ⟨i + 1, by omega, by go_num, Lib.hid (fun j hj => by
          by_cases e : j = i
          · rw [e]; exact HQ.out
          · exact HR.out j (by omega))⟩
        case measure => simp [intOf]; omega
    · have ein : n = i := by omega
      subst ein
      go_wp2
      go_ret
      exact ⟨ret_i (idxB_miss HR.out), rfl⟩
theorem contains_ints {w : World} {A : Option Addr} {n c : Nat} {x : Nat → Int} {a : Int} (hn : n ≤ 1000) (h : IntAt w A n x) :
    Calls Try.prog 57 #[.slice A n c, .int .i64 a] w fun e w' => e = .returned (.bool (anyB n fun j => decide (a = x j))) ∧ w' = w := by
  have hcon := index_ints (c := c) (a := a) hn h
  have hany := idxB_any (p := fun j => decide (a = x j)) n
  obtain ⟨r, hr⟩ : ∃ r, r = idxB (fun j => decide (a = x j)) n := ⟨_, rfl⟩
  rw [← hr] at hcon hany
  have HA := Lib.hid hany
  clear hany hr h
  go_enter Try.func57, Try.ntmps57
  go_wp2_with fail
  refine hcon.mono ?_
  rintro e w' ⟨rfl, rfl⟩
  go_wp2
  go_ret
  exact ⟨ret_b' HA.out, rfl⟩
theorem has_any {w : World} {nm : ByteArray} {A : Option Addr} {n c : Nat} {x : Nat → Int} {a : Int} (hn : n ≤ 1000) (h : IntAt w A n x) :
    Calls Try.prog 78 #[.agg #[.string nm, .slice A n c], .int .i64 a] w fun e w' => e = .returned (.bool (anyB n fun j => decide (a = x j))) ∧ Below w.heap.size w w' := by
  have hb : Below w.heap.size w (w.alloc (.cells #[.string nm, .slice A n c] 33)) := (Below.refl _ _).alloc (Nat.le_refl _) _
  have hcon := contains_ints (c := c) (a := a) hn (h.below hb)
  have H := Lib.hid hb
  clear hb h
  generalize (anyB n fun j => decide (a = x j)) = r at hcon ⊢
  go_enter Try.func78, Try.ntmps78
  go_wp2_with fail
  refine hcon.mono ?_
  rintro e w' ⟨rfl, rfl⟩
  go_wp2
  go_ret
  exact ⟨rfl, H.out⟩
theorem exists_any {w : World} {A R F : Option Addr} {n ca m cr k cf : Nat} {l a : Int} (hn : n ≤ 1000) :
    Calls Try.prog 75 #[.agg #[.slice A n ca, .slice R m cr, .slice F k cf, .int .i64 l], .int .i64 a] w fun e w' => e = .returned (.bool (betweenB a 0 ((n : Int) - 1))) ∧ Below w.heap.size w w' := by
  have hcon := fun w => between_any a 0 ((n : Int) - 1) w
  generalize betweenB a 0 ((n : Int) - 1) = r at hcon ⊢
  go_enter Try.func75, Try.ntmps75
  go_wp2_with fail
  refine (hcon _).mono ?_
  rintro e w' ⟨rfl, rfl⟩
  go_wp2
  go_ret
  exact ⟨rfl, (Below.refl _ _).alloc (Nat.le_refl _) _⟩
set_option maxHeartbeats 1600000 in
theorem asc_any {w : World} {A : Option Addr} {n c : Nat} {x : Nat → Int} (hn : n ≤ 1000) (h : IntAt w A n x) :
    Calls Try.prog 76 #[.slice A n c] w fun e w' => e = .returned (.bool (!anyB (n - 1) fun j => decide (x (j + 1) ≤ x j))) ∧ Below w.heap.size w w' := by
  have H := Lib.hid h
  clear h
  go_enter Try.func76, Try.ntmps76
  go_wp2_with fail
  go_loopg [3] n (fun gg s3 wr => ∃ i : Nat, i + 1 + gg = n + 1 ∧ s3 = .int .i64 ((i : Int) + 1) ∧ Hid (Below w.heap.size w wr ∧ ∀ j, j < i → decide (x (j + 1) ≤ x j) = false))
  case atStart => exact ⟨0, by omega, rfl, Lib.hid ⟨Below.refl _ _, fun _ h => absurd h (by omega)⟩⟩
  case round =>
    obtain ⟨i, hi, rfl, HR⟩ := hrel
    by_cases hlt : i + 1 < n
    · obtain ⟨b, off, rfl, hbl, hc⟩ := (H.out.below HR.out.1) (by omega)
      have c0 := hc i (by omega)
      have c1 := hc (i + 1) hlt
      have HI := Lib.hid (And.intro hbl hc)
      clear hbl hc
      have hn1 : ((i : Int) + 1).toNat = i + 1 := by omega
      have hp1 : (0 : Int) ≤ (i : Int) + 1 := by omega
      have hl1 : (i : Int) + 1 < (n : Int) := by omega
      have hl0 : (i : Int) < (n : Int) := by omega
      obtain ⟨y, hy⟩ : ∃ y, y = x i := ⟨_, rfl⟩
      obtain ⟨z, hz⟩ : ∃ z, z = x (i + 1) := ⟨_, rfl⟩
      rw [← hy] at c0
      rw [← hz] at c1
      have HY := Lib.hid (And.intro hy hz)
      clear hy hz
      have hw1 : IntKind.i64.wrap ((i : Int) + 1 - 1) = (i : Int) := by rw [show (i : Int) + 1 - 1 = i by omega]; exact IntWalk.i64_in _ (by omega)
      by_cases hq : z ≤ y
      · have HQ := Lib.hid (show decide (x (i + 1) ≤ x i) = true by rw [← HY.out.1, ← HY.out.2]; exact decide_eq_true hq)
        go_wp2_with fail
        go_quiet (fail)
        go_wp2
        go_ret
        exact ⟨ret_b (by rw [anyB_hit (i := i) (by omega) HQ.out]; rfl), HR.out.1.trans (((Drawn.refl wr).drewN nq).below _)⟩
      · have HQ := Lib.hid (show decide (x (i + 1) ≤ x i) = false by rw [← HY.out.1, ← HY.out.2]; exact decide_eq_false hq)
        go_wp2_with fail
        go_quiet (fail)
        go_wp2
        go_roundg (n - (i + 1))
        case measure => omega
        case rel => exact ⟨i + 1, by omega, by go_num, Lib.hid ⟨HR.out.1.trans (((Drawn.refl wr).drewN nq).below _), fun j hj => by
          by_cases e : j = i
          · rw [e]; exact HQ.out
          · exact HR.out.2 j (by omega)⟩⟩
    · have HF := Lib.hid (anyB_false.2 fun j hj => HR.out.2 j (by omega) : anyB (n - 1) (fun j => decide (x (j + 1) ≤ x j)) = false)
      have hl1 : ¬ (i : Int) + 1 < (n : Int) := by omega
      go_wp2
      go_ret
      exact ⟨ret_b (by rw [HF.out]; rfl), HR.out.1⟩
theorem pred_name {W : World} {B n : Nat} {nm : ByteArray} {f : Nat → ByteArray} {h : Nat → Int} (hB : B < W.heap.size) (hc : W.cell? ⟨B, 0, none⟩ = some (.string nm)) :
    PredB 71 #[.pointer (some ⟨B, 0, none⟩)] (AttrVal f h) n (fun j => sameB (f j) nm) W := fun w j _ hb => by
  have c0 := (hb.cell (p := ⟨B, 0, none⟩) hB).trans hc
  have hBw : B < w.heap.size := Nat.lt_of_lt_of_le hB hb.size
  have hne : B ≠ w.heap.size := by omega
  have H := Lib.hid (toList_same (f j) nm)
  clear hb hc
  show Calls Try.prog 71 #[.agg #[.string (f j), .int .i64 (h j)], .pointer (some ⟨B, 0, none⟩)] w _
  go_enter Try.func71, Try.ntmps71
  go_wp2
  go_ret
  exact ⟨ret_b H.out.symm, (Below.refl _ _).alloc (Nat.le_refl _) _⟩
theorem pred_rname {W : World} {B n : Nat} {nm : ByteArray} {f : Nat → ByteArray} {h : Nat → Option Addr × Nat × Nat} (hB : B < W.heap.size) (hc : W.cell? ⟨B, 0, none⟩ = some (.string nm)) :
    PredB 73 #[.pointer (some ⟨B, 0, none⟩)] (RelVal f h) n (fun j => sameB (f j) nm) W := fun w j _ hb => by
  have c0 := (hb.cell (p := ⟨B, 0, none⟩) hB).trans hc
  have hBw : B < w.heap.size := Nat.lt_of_lt_of_le hB hb.size
  have hne : B ≠ w.heap.size := by omega
  have H := Lib.hid (toList_same (f j) nm)
  clear hb hc
  show Calls Try.prog 73 #[.agg #[.string (f j), .slice (h j).1 (h j).2.1 (h j).2.2], .pointer (some ⟨B, 0, none⟩)] w _
  go_enter Try.func73, Try.ntmps73
  go_wp2
  go_ret
  exact ⟨ret_b H.out.symm, (Below.refl _ _).alloc (Nat.le_refl _) _⟩
theorem pred_feat {W : World} {B n : Nat} {a : Int} {f h k : Nat → Int} (hB : B < W.heap.size) (hc : W.cell? ⟨B, 0, none⟩ = some (.int .i64 a)) :
    PredB 81 #[.pointer (some ⟨B, 0, none⟩)] (FeatVal f h k) n (fun j => decide (f j = a)) W := fun w j _ hb => by
  have c0 := (hb.cell (p := ⟨B, 0, none⟩) hB).trans hc
  have hBw : B < w.heap.size := Nat.lt_of_lt_of_le hB hb.size
  have hne : B ≠ w.heap.size := by omega
  have H := Lib.hid (show (f j == a) = decide (f j = a) from rfl)
  clear hb hc
  show Calls Try.prog 81 #[.agg #[.int .i64 (f j), .int .i64 (h j), .int .i64 (k j)], .pointer (some ⟨B, 0, none⟩)] w _
  go_enter Try.func81, Try.ntmps81
  go_wp2
  go_ret
  exact ⟨ret_b H.out.symm, (Below.refl _ _).alloc (Nat.le_refl _) _⟩
theorem pred_range {W : World} {B n : Nat} {A R F : Option Addr} {m ca r cr q cf : Nat} {l : Int} {f : Nat → Int} (hm : m ≤ 1000) (hB : B < W.heap.size)
    (h0 : W.cell? ⟨B, 0, none⟩ = some (.slice A m ca)) (h1 : W.cell? ⟨B, 1, none⟩ = some (.slice R r cr)) (h2 : W.cell? ⟨B, 2, none⟩ = some (.slice F q cf)) (h3 : W.cell? ⟨B, 3, none⟩ = some (.int .i64 l)) :
    PredB 74 #[.pointer (some ⟨B, 0, none⟩)] (IntVal f) n (fun j => !betweenB (f j) 0 ((m : Int) - 1)) W := fun w j _ hb => by
  have c0 := (hb.cell (p := ⟨B, 0, none⟩) hB).trans h0
  have c1 := (hb.cell (p := ⟨B, 1, none⟩) hB).trans h1
  have c2 := (hb.cell (p := ⟨B, 2, none⟩) hB).trans h2
  have c3 := (hb.cell (p := ⟨B, 3, none⟩) hB).trans h3
  clear hb h0 h1 h2 h3
  have hcon := exists_any (w := w) (A := A) (R := R) (F := F) (ca := ca) (m := r) (cr := cr) (k := q) (cf := cf) (l := l) (a := f j) hm
  obtain ⟨rr, hrr⟩ : ∃ rr, rr = betweenB (f j) 0 ((m : Int) - 1) := ⟨_, rfl⟩
  rw [← hrr] at hcon
  have HR := Lib.hid hrr
  clear hrr
  show Calls Try.prog 74 #[.int .i64 (f j), .pointer (some ⟨B, 0, none⟩)] w _
  go_enter Try.func74, Try.ntmps74
  go_wp2_with fail
  refine hcon.mono ?_
  rintro e w' ⟨rfl, hb⟩
  go_wp2
  go_ret
  exact ⟨ret_b (show (!betweenB (f j) 0 ((m : Int) - 1)) = !rr by rw [HR.out]), hb⟩
end Go.Proofs.Ytiakgcaflnpmeaa
namespace Go.Proofs.Ytiakgcaflnpmeaa
open Go Go.RowKit

theorem eg_attr : ∀ args w, (callFunc 71 args).run Try.prog w = .ok (.enter 71 args) w := enters_of Try.func71 (by kernel_rfl) rfl
theorem eg_rel1 : ∀ args w, (callFunc 73 args).run Try.prog w = .ok (.enter 73 args) w := enters_of Try.func73 (by kernel_rfl) rfl
theorem eg_rel2 : ∀ args w, (callFunc 74 args).run Try.prog w = .ok (.enter 74 args) w := enters_of Try.func74 (by kernel_rfl) rfl
theorem eg_used : ∀ args w, (callFunc 77 args).run Try.prog w = .ok (.enter 77 args) w := enters_of Try.func77 (by kernel_rfl) rfl
theorem eg_feat : ∀ args w, (callFunc 81 args).run Try.prog w = .ok (.enter 81 args) w := enters_of Try.func81 (by kernel_rfl) rfl
/-- The relations' lists of ints. -/
def LInts (w : World) (n : Nat) (h : Nat → Option Addr × Nat × Nat) (rn : Nat → Nat) (x : Nat → Nat → Int) : Prop := ∀ j, j < n → (h j).2.1 = rn j ∧ rn j ≤ 1000 ∧ IntAt w (h j).1 (rn j) (x j)
theorem pred_used {W : World} {B n : Nat} {a : Int} {f : Nat → ByteArray} {h : Nat → Option Addr × Nat × Nat} {rn : Nat → Nat} {x : Nat → Nat → Int} (hB : B < W.heap.size) (hc : W.cell? ⟨B, 0, none⟩ = some (.int .i64 a)) (hx : LInts W n h rn x) :
    PredB 77 #[.pointer (some ⟨B, 0, none⟩)] (RelVal f h) n (fun j => anyB (rn j) fun i => decide (a = x j i)) W := fun w j hj hb => by
  obtain ⟨e1, e2, e3⟩ := hx j hj
  have c0 := (hb.cell (p := ⟨B, 0, none⟩) hB).trans hc
  have hBw : B < w.heap.size := Nat.lt_of_lt_of_le hB hb.size
  have hne : B ≠ w.heap.size := by omega
  rcases hh : h j with ⟨A, l, c⟩
  rw [hh] at e1 e3
  have e1' : l = rn j := e1
  have hg : Below w.heap.size w (w.alloc (.cells #[.string (f j), .slice A (rn j) c] 33)) := (Below.refl _ _).alloc (Nat.le_refl _) _
  have hcon := has_any (nm := f j) (c := c) (a := a) e2 ((e3.below hb).below hg)
  have H := Lib.hid hg
  unfold RelVal
  rw [hh]
  show Calls Try.prog 77 #[.agg #[.string (f j), .slice A l c], .pointer (some ⟨B, 0, none⟩)] w _
  rw [e1']
  clear hb hc hx e1 e1' e3 hg hh
  go_enter Try.func77, Try.ntmps77
  go_wp2_with fail
  refine hcon.mono ?_
  rintro e w' ⟨rfl, hb⟩
  go_wp2
  go_ret
  exact ⟨rfl, Below.step H.out hb⟩
set_option maxHeartbeats 3200000 in
set_option maxRecDepth 100000 in
theorem chkattr_any {w : World} {S : Sc} {V : Sv} (h : SchIn w S V) {i : Nat} (hi : i < S.na) :
    Calls Try.prog 52 #[.agg #[.slice V.A S.na V.ca, .slice V.R S.nr V.cr, .slice V.F S.nf V.cf, .int .i64 S.label], .int .i64 (i : Int)] w fun e w' => e = .returned (.int .i64 (attrE S i)) ∧ Below w.heap.size w w' := by
  obtain ⟨b, off, hA, hbl, hc⟩ := h.attr (by omega)
  obtain ⟨c0, c1⟩ := hc i hi
  have ha : AttrAt w (some ⟨b, off, none⟩) S.na S.name S.kind := hA ▸ h.attr
  have hsz := h.ns i hi
  have hca := h.ca
  have hcam := h.cam
  have hna := h.na
  unfold maxLen at hcam
  rw [hA]
  have H := Lib.hid (And.intro ha (And.intro hsz hbl))
  clear ha hsz hc hA h
  have hi0 : (0 : Int) ≤ (i : Int) := by omega
  have hi1 : (i : Int) < (S.na : Int) := by omega
  have hi2 : (i : Int) ≤ (V.ca : Int) := by omega
  go_enter Try.func52, Try.ntmps52
  go_wp2_with fail
  refine (sword_any (S.name i) _ H.out.2.1).mono ?_
  rintro e w' ⟨rfl, rfl⟩
  cases hw : wordB (S.name i) with
  | false =>
    have HW := Lib.hid hw
    clear hw
    go_wp2
    go_ret
    exact ⟨ret_i (show attrE S i = 14 by unfold attrE; rw [if_pos HW.out]), by go_grown⟩
  | true =>
    have HW := Lib.hid hw
    clear hw
    go_wp2_with fail
    refine (any_attr (p := fun j => sameB (S.name j) (S.name i)) eg_attr (by omega) (AttrAt.take (m := i) (H.out.1.below (by go_grown)) (by omega)) (pred_name (by simp) (by simp))).mono ?_
    rintro e w2 ⟨rfl, hb⟩
    have q0 := (hb.cell (p := ⟨w.heap.size, 0, none⟩) (by simp; omega)).trans (by simp; rfl)
    have hb2 : Below w.heap.size w w2 := by refine Below.trans ?_ (hb.mono ?_) <;> first | go_grown | (simp; omega)
    have q1 := (hb2.cell (p := ⟨b, off + i * 2 + 1, none⟩) H.out.2.2).trans c1
    have HB := Lib.hid hb2
    clear hb hb2 c0 c1
    cases ht : anyB i (fun j => sameB (S.name j) (S.name i)) with
    | true =>
      have HT := Lib.hid ht
      clear ht
      go_wp2
      go_ret
      exact ⟨ret_i (show attrE S i = 9 by unfold attrE; rw [if_neg (by rw [HW.out]; simp), if_pos HT.out]), HB.out⟩
    | false =>
      have HT := Lib.hid ht
      clear ht
      go_wp2_with fail
      refine (between_any _ _ _ _).mono ?_
      rintro e w3 ⟨rfl, rfl⟩
      cases hk : betweenB (S.kind i) 1 3 with
      | true =>
        have HK := Lib.hid hk
        clear hk
        go_wp2
        go_ret
        exact ⟨ret_i (show attrE S i = 0 by
          have h1 := HK.out
          unfold betweenB at h1
          rw [Bool.and_eq_true, decide_eq_true_eq, decide_eq_true_eq] at h1
          unfold attrE; rw [if_neg (by rw [HW.out]; simp), if_neg (by rw [HT.out]; simp), if_neg (by omega)]), HB.out⟩
      | false =>
        have HK := Lib.hid hk
        clear hk
        go_wp2
        go_ret
        exact ⟨ret_i (show attrE S i = 7 by
          have h1 := HK.out
          unfold betweenB at h1
          rw [Bool.and_eq_false_iff, decide_eq_false_iff_not, decide_eq_false_iff_not] at h1
          unfold attrE; rw [if_neg (by rw [HW.out]; simp), if_neg (by rw [HT.out]; simp), if_pos (by omega)]), HB.out⟩
set_option maxHeartbeats 3200000 in
set_option maxRecDepth 100000 in
theorem chkrel_any {w : World} {S : Sc} {V : Sv} (h : SchIn w S V) {i : Nat} (hi : i < S.nr) :
    Calls Try.prog 53 #[.agg #[.slice V.A S.na V.ca, .slice V.R S.nr V.cr, .slice V.F S.nf V.cf, .int .i64 S.label], .int .i64 (i : Int)] w fun e w' => e = .returned (.int .i64 (relE S i)) ∧ Below w.heap.size w w' := by
  obtain ⟨b, off, hA, hbl, hc⟩ := h.rel (by omega)
  obtain ⟨c0, c1⟩ := hc i hi
  have ha : RelAt w (some ⟨b, off, none⟩) S.nr S.rname V.L := hA ▸ h.rel
  have hsz := h.rs i hi
  have hcr := h.cr
  have hcrm := h.crm
  have hnr := h.nr
  have hna := h.na
  obtain ⟨e1, hrn, e3⟩ := h.ints i hi
  rcases hh : V.L i with ⟨IA, l, lc⟩
  rw [hh] at c1 e1 e3
  have e1' : l = S.rn i := e1
  have c1' : w.cell? ⟨b, off + i * 2 + 1, none⟩ = some (.slice IA l lc) := c1
  rw [e1'] at c1'
  have hx : IntAt w IA (S.rn i) (S.rat i) := e3
  unfold maxLen at hcrm
  rw [hA]
  have H := Lib.hid (And.intro ha (And.intro hsz (And.intro hbl hx)))
  clear ha hsz hc hA h c1 e1 e1' e3 hh hx
  have hi0 : (0 : Int) ≤ (i : Int) := by omega
  have hi1 : (i : Int) < (S.nr : Int) := by omega
  have hi2 : (i : Int) ≤ (V.cr : Int) := by omega
  go_enter Try.func53, Try.ntmps53
  go_wp2_with fail
  refine (sword_any (S.rname i) _ H.out.2.1).mono ?_
  rintro e w' ⟨rfl, rfl⟩
  cases hw : wordB (S.rname i) with
  | false =>
    have HW := Lib.hid hw
    clear hw
    go_wp2
    go_ret
    exact ⟨ret_i (show relE S i = 14 by unfold relE; rw [if_pos HW.out]), by go_grown⟩
  | true =>
    have HW := Lib.hid hw
    clear hw
    go_wp2_with fail
    refine (any_rel (p := fun j => sameB (S.rname j) (S.rname i)) eg_rel1 (by omega) (RelAt.take (m := i) (H.out.1.below (by go_grown)) (by omega)) (pred_rname (by simp) (by simp))).mono ?_
    rintro e w2 ⟨rfl, hb⟩
    have q0 := (hb.cell (p := ⟨w.heap.size, 0, none⟩) (by simp; omega)).trans (by simp; rfl)
    have q1 := (hb.cell (p := ⟨w.heap.size, 1, none⟩) (by simp; omega)).trans (by simp; rfl)
    have q2 := (hb.cell (p := ⟨w.heap.size, 2, none⟩) (by simp; omega)).trans (by simp; rfl)
    have q3 := (hb.cell (p := ⟨w.heap.size, 3, none⟩) (by simp; omega)).trans (by simp; rfl)
    have r1 := (hb.cell (p := ⟨w.heap.size + 1, 1, none⟩) (by simp)).trans (by simp; rfl)
    have hs2 : w.heap.size + 1 < w2.heap.size := by have := hb.size; simp at this; omega
    have hb2 : Below w.heap.size w w2 := by refine Below.trans ?_ (hb.mono ?_) <;> first | go_grown | (simp; omega)
    have HB := Lib.hid hb2
    clear hb hb2 c0 c1'
    cases ht : anyB i (fun j => sameB (S.rname j) (S.rname i)) with
    | true =>
      have HT := Lib.hid ht
      clear ht
      go_wp2
      go_ret
      exact ⟨ret_i (show relE S i = 9 by unfold relE; rw [if_neg (by rw [HW.out]; simp), if_pos HT.out]), HB.out⟩
    | false =>
      have HT := Lib.hid ht
      clear ht
      by_cases hz : S.rn i = 0
      · have hzb : ((S.rn i : Int) == 0) = true := by rw [beq_iff_eq]; omega
        have hzi : (S.rn i : Int) = 0 := by omega
        have HZ := Lib.hid hz
        clear hz
        go_wp2
        go_ret
        exact ⟨ret_i (show relE S i = 7 by unfold relE; rw [if_neg (by rw [HW.out]; simp), if_neg (by rw [HT.out]; simp), if_pos HZ.out]), HB.out⟩
      · have hzb : ((S.rn i : Int) == 0) = false := by rw [beq_eq_false_iff_ne]; omega
        have hzi : ¬ (S.rn i : Int) = 0 := by omega
        have HZ := Lib.hid hz
        clear hz
        go_wp2_with fail
        refine (any_int (p := fun j => !betweenB (S.rat i j) 0 ((S.na : Int) - 1)) eg_rel2 hrn (H.out.2.2.2.below HB.out) (pred_range hna (by omega) q0 q1 q2 q3)).mono ?_
        rintro e w3 ⟨rfl, hb⟩
        have r2 := (hb.cell (p := ⟨w.heap.size + 1, 1, none⟩) hs2).trans r1
        have HC := Lib.hid (Below.step HB.out hb)
        clear hb q0 q1 q2 q3 r1
        cases hr : anyB (S.rn i) (fun j => !betweenB (S.rat i j) 0 ((S.na : Int) - 1)) with
        | true =>
          have HR := Lib.hid (show anyB (S.rn i) (fun j => !existsB S (S.rat i j)) = true from hr)
          clear hr
          go_wp2
          go_ret
          exact ⟨ret_i (show relE S i = 2 by unfold relE; rw [if_neg (by rw [HW.out]; simp), if_neg (by rw [HT.out]; simp), if_neg HZ.out, if_pos HR.out]), HC.out⟩
        | false =>
          have HR := Lib.hid (show anyB (S.rn i) (fun j => !existsB S (S.rat i j)) = false from hr)
          clear hr
          go_wp2_with fail
          refine (asc_any hrn (H.out.2.2.2.below HC.out)).mono ?_
          rintro e w4 ⟨rfl, hb⟩
          have HD := Lib.hid (Below.step HC.out hb)
          clear hb r2
          cases hs : (!anyB (S.rn i - 1) fun j => decide (S.rat i (j + 1) ≤ S.rat i j)) with
          | true =>
            have HS := Lib.hid (show ascB S i = true from hs)
            clear hs
            go_wp2
            go_ret
            exact ⟨ret_i (show relE S i = 0 by unfold relE; rw [if_neg (by rw [HW.out]; simp), if_neg (by rw [HT.out]; simp), if_neg HZ.out, if_neg (by rw [HR.out]; simp), if_neg (by rw [HS.out]; simp)]), HD.out⟩
          | false =>
            have HS := Lib.hid (show ascB S i = false from hs)
            clear hs
            go_wp2
            go_ret
            exact ⟨ret_i (show relE S i = 10 by unfold relE; rw [if_neg (by rw [HW.out]; simp), if_neg (by rw [HT.out]; simp), if_neg HZ.out, if_neg (by rw [HR.out]; simp), if_pos HS.out]), HD.out⟩
theorem between_sz (n hi : Nat) : betweenB (n : Int) 1 (hi : Int) = (decide (1 ≤ n) && decide (n ≤ hi)) := by
  unfold betweenB
  congr 1 <;> (rw [decide_eq_decide]; omega)
set_option maxHeartbeats 1600000 in
set_option maxRecDepth 100000 in
theorem sizes_any {w : World} {S : Sc} {V : Sv} :
    Calls Try.prog 51 #[.agg #[.slice V.A S.na V.ca, .slice V.R S.nr V.cr, .slice V.F S.nf V.cf, .int .i64 S.label]] w fun e w' => e = .returned (.bool (sizesB S)) ∧ Below w.heap.size w w' := by
  have E1 := Lib.hid (between_sz S.na 12)
  have E2 := Lib.hid (between_sz S.nr 6)
  go_enter Try.func51, Try.ntmps51
  go_wp2_with fail
  refine (between_any _ _ _ _).mono ?_
  rintro e w2 ⟨rfl, rfl⟩
  cases h1 : betweenB (S.na : Int) 1 12 with
  | false =>
    have H1 := Lib.hid (E1.out.symm.trans h1)
    clear h1
    go_wp2
    go_ret
    exact ⟨ret_b (by unfold sizesB; rw [H1.out]; rfl), by go_grown⟩
  | true =>
    have H1 := Lib.hid (E1.out.symm.trans h1)
    clear h1
    go_wp2_with fail
    refine (between_any _ _ _ _).mono ?_
    rintro e w3 ⟨rfl, rfl⟩
    cases h2 : betweenB (S.nr : Int) 1 6 with
    | false =>
      have H2 := Lib.hid (E2.out.symm.trans h2)
      clear h2
      go_wp2
      go_ret
      exact ⟨ret_b (by unfold sizesB; rw [H1.out, H2.out]; rfl), by go_grown⟩
    | true =>
      have H2 := Lib.hid (E2.out.symm.trans h2)
      clear h2
      by_cases h3 : S.nf ≤ 8
      · have h3i : (S.nf : Int) ≤ 8 := by omega
        have H3 := Lib.hid (decide_eq_true h3)
        clear h3
        go_wp2
        go_ret
        exact ⟨ret_b (by unfold sizesB; rw [H1.out, H2.out, H3.out]; rfl), by go_grown⟩
      · have h3i : ¬ (S.nf : Int) ≤ 8 := by omega
        have H3 := Lib.hid (decide_eq_false h3)
        clear h3
        go_wp2
        go_ret
        exact ⟨ret_b (by unfold sizesB; rw [H1.out, H2.out, H3.out]; first | rfl | (rw [decide_eq_false (show ¬ (S.nf : Int) ≤ 8 by omega)]; rfl)), by go_grown⟩
end Go.Proofs.Ytiakgcaflnpmeaa
