/- Sums of products of fractions: what both packages give, and its bounds. -/
import Derived.Test.YtigplffpnbdkeaaGreatDoorQTot
namespace Go.Proofs.YtigplffpnbdkeaaGreatDoor
open Go Go.RowKit

theorem F.plus_lt2 {b c : Nat} {x y : Rat} (hx : F.Lt b x) (hy : F.Lt c y) : F.Lt (2 * (b * c)) (x + y) := by
  have h1 : y.den / F.pg x y < c := Nat.lt_of_le_of_lt (Nat.div_le_self _ _) hy.2
  have h2 : x.den / F.pg x y < b := Nat.lt_of_le_of_lt (Nat.div_le_self _ _) hx.2
  refine ⟨?_, ?_⟩
  · rw [F.plus_num]
    refine Nat.lt_of_le_of_lt (Int.natAbs_ediv_le_natAbs _ _) ?_
    unfold F.pn
    have h3 := Nat.mul_lt_mul'' hx.1 h1
    have h4 := Nat.mul_lt_mul'' hy.1 h2
    rw [Nat.mul_comm c b] at h4
    have h5 := Int.natAbs_add_le (x.num * ((y.den / F.pg x y : Nat) : Int)) (y.num * ((x.den / F.pg x y : Nat) : Int))
    rw [Int.natAbs_mul, Int.natAbs_mul, Int.natAbs_natCast, Int.natAbs_natCast] at h5
    omega
  · rw [F.plus_den]
    have h1 : y.den / F.pt x y < c := Nat.lt_of_le_of_lt (Nat.div_le_self _ _) hy.2
    have := Nat.mul_lt_mul'' h2 h1
    omega
theorem F.times_lt2 {b c : Nat} {x y : Rat} (hx : F.Lt b x) (hy : F.Lt c y) : F.Lt (b * c) (x * y) := by
  refine ⟨?_, ?_⟩
  · rw [F.times_num, Int.natAbs_mul]
    exact Nat.mul_lt_mul'' (Nat.lt_of_le_of_lt (Int.natAbs_ediv_le_natAbs _ _) hx.1) (Nat.lt_of_le_of_lt (Int.natAbs_ediv_le_natAbs _ _) hy.1)
  · rw [F.times_den]
    exact Nat.mul_lt_mul'' (Nat.lt_of_le_of_lt (Nat.div_le_self _ _) hx.2) (Nat.lt_of_le_of_lt (Nat.div_le_self _ _) hy.2)

/-- The product of the k first lists' elements i. -/
def prodv (val : Nat → Nat → Option Rat) (i : Nat) : Nat → Rat
  | 0 => 1
  | k + 1 => prodv val i k * (val k i).getD 0
/-- The sum of the i first products. -/
def sumv (m : Nat) (val : Nat → Nat → Option Rat) : Nat → Rat
  | 0 => 0
  | i + 1 => sumv m val i + prodv val i m
/-- L is the greatest number of digits among the places P. -/
def IsMax (val : Nat → Nat → Option Rat) (P : Nat → Nat → Prop) (L : Nat) : Prop :=
  (∀ k i, P k i → qdig (val k i) ≤ L) ∧ (L = 0 ∨ ∃ k i, P k i ∧ qdig (val k i) = L)
theorem IsMax.uniq {val : Nat → Nat → Option Rat} {P : Nat → Nat → Prop} {L L' : Nat} (h : IsMax val P L) (h' : IsMax val P L') : L = L' := by
  have one : ∀ {A B : Nat}, IsMax val P A → IsMax val P B → A ≤ B := by
    intro A B hA hB
    rcases hA.2 with h0 | ⟨k, i, hP, he⟩
    · omega
    · rw [← he]; exact hB.1 k i hP
  exact Nat.le_antisymm (one h h') (one h' h)
theorem IsMax.add {val : Nat → Nat → Option Rat} {P P' : Nat → Nat → Prop} {L k0 i0 : Nat} (h : IsMax val P L) (hP : ∀ k i, P' k i ↔ P k i ∨ (k = k0 ∧ i = i0)) : IsMax val P' (max L (qdig (val k0 i0))) := by
  refine ⟨fun k i hk => ?_, ?_⟩
  · rcases (hP k i).1 hk with h1 | ⟨rfl, rfl⟩
    · exact Nat.le_trans (h.1 k i h1) (Nat.le_max_left _ _)
    · exact Nat.le_max_right _ _
  · rcases Nat.le_total L (qdig (val k0 i0)) with h1 | h1
    · rw [Nat.max_eq_right h1]
      exact .inr ⟨k0, i0, (hP k0 i0).2 (.inr ⟨rfl, rfl⟩), rfl⟩
    · rw [Nat.max_eq_left h1]
      rcases h.2 with h0 | ⟨k, i, hk, he⟩
      · exact .inl h0
      · exact .inr ⟨k, i, (hP k i).2 (.inl hk), he⟩
theorem IsMax.iff {val : Nat → Nat → Option Rat} {P P' : Nat → Nat → Prop} {L : Nat} (h : IsMax val P L) (hP : ∀ k i, P' k i ↔ P k i) : IsMax val P' L := by
  refine ⟨fun k i hk => h.1 k i ((hP k i).1 hk), ?_⟩
  rcases h.2 with h0 | ⟨k, i, hk, he⟩
  · exact .inl h0
  · exact .inr ⟨k, i, (hP k i).2 hk, he⟩
theorem IsMax.none {val : Nat → Nat → Option Rat} {P : Nat → Nat → Prop} (h : ∀ k i, ¬ P k i) : IsMax val P 0 := ⟨fun k i hk => absurd hk (h k i), .inl rfl⟩
/-- What a sum of products gives. -/
def SumRes (m n : Nat) (val : Nat → Nat → Option Rat) (v : Value) : Prop :=
  ((∃ k i, k < m ∧ i < n ∧ val k i = none) ∧ v = .tuple #[.string ⟨#[]⟩, .int .i64 1]) ∨
  ((∀ k i, k < m → i < n → val k i ≠ none) ∧ ∃ L, IsMax val (fun k i => k < m ∧ i < n) L ∧ ((6000 < n * L ∧ v = .tuple #[.string ⟨#[]⟩, .int .i64 3]) ∨ (n * L ≤ 6000 ∧ v = qgive (sumv m val n))))
theorem SumRes.uniq {m n : Nat} {val : Nat → Nat → Option Rat} {v u : Value} (h : SumRes m n val v) (h' : SumRes m n val u) : v = u := by
  rcases h with ⟨⟨k, i, hk, hi, hn⟩, rfl⟩ | ⟨ha, L, hL, hv⟩
  · rcases h' with ⟨_, rfl⟩ | ⟨ha, _⟩
    · rfl
    · exact absurd hn (ha k i hk hi)
  · rcases h' with ⟨⟨k, i, hk, hi, hn⟩, rfl⟩ | ⟨_, L', hL', hv'⟩
    · exact absurd hn (ha k i hk hi)
    · obtain rfl := hL.uniq hL'
      rcases hv with ⟨h1, rfl⟩ | ⟨h1, rfl⟩
      · rcases hv' with ⟨_, rfl⟩ | ⟨h2, _⟩
        · rfl
        · omega
      · rcases hv' with ⟨h2, _⟩ | ⟨_, rfl⟩
        · omega
        · rfl
theorem SumRes.two {m n : Nat} {val : Nat → Nat → Option Rat} {v : Value} (h : SumRes m n val v) : ∃ o c, v = .tuple #[.string o, .int .i64 c] := by
  rcases h with ⟨_, rfl⟩ | ⟨_, L, _, ⟨_, rfl⟩ | ⟨_, rfl⟩⟩
  · exact ⟨_, _, rfl⟩
  · exact ⟨_, _, rfl⟩
  · exact qgive_two _
theorem qdig_lt {x : Rat} {L : Nat} (h : qdig (some x) ≤ L) : F.Lt (10 ^ L) x := by
  have h' : max (Lib.nDigits x.num.natAbs) (Lib.nDigits x.den) ≤ L := h
  exact ⟨Nat.lt_of_lt_of_le (Lib.lt_pow_nDigits _) (Nat.pow_le_pow_right (by decide) (by omega)), Nat.lt_of_lt_of_le (Lib.lt_pow_nDigits _) (Nat.pow_le_pow_right (by decide) (by omega))⟩
theorem qdig_pos (x : Rat) : 1 ≤ qdig (some x) := Nat.le_trans (Lib.nDigits_pos _) (Nat.le_max_left _ _)
theorem prodv_lt {val : Nat → Nat → Option Rat} {i L : Nat} : ∀ {k : Nat}, (∀ k', k' < k → ∃ x, val k' i = some x ∧ qdig (some x) ≤ L) → F.Lt (10 ^ (k * L + 1)) (prodv val i k)
  | 0, _ => ⟨by show (1 : Nat) < 10 ^ (0 * L + 1); rw [Nat.zero_mul]; decide, by show (1 : Nat) < 10 ^ (0 * L + 1); rw [Nat.zero_mul]; decide⟩
  | k + 1, h => by
    obtain ⟨x, hx, hd⟩ := h k (Nat.lt_succ_self k)
    have h1 := prodv_lt (val := val) (i := i) (L := L) (k := k) fun k' hk' => h k' (Nat.lt_succ_of_lt hk')
    have h2 := F.times_lt2 h1 (qdig_lt hd)
    rw [← Nat.pow_add] at h2
    show F.Lt _ (prodv val i k * (val k i).getD 0)
    rw [hx]
    exact h2.mono (Nat.pow_le_pow_right (by decide) (by rw [Nat.succ_mul]; omega))
theorem sumv_lt {m : Nat} {val : Nat → Nat → Option Rat} {L : Nat} : ∀ {i : Nat}, (∀ k' i', k' < m → i' < i → ∃ x, val k' i' = some x ∧ qdig (some x) ≤ L) → F.Lt (10 ^ (i * (m * L + 2) + 1)) (sumv m val i)
  | 0, _ => ⟨by show (0 : Nat) < 10 ^ (0 * (m * L + 2) + 1); exact Nat.pow_pos (by decide), by show (1 : Nat) < 10 ^ (0 * (m * L + 2) + 1); rw [Nat.zero_mul]; decide⟩
  | i + 1, h => by
    have h1 := sumv_lt (m := m) (val := val) (L := L) (i := i) fun k' i' hk hi => h k' i' hk (Nat.lt_succ_of_lt hi)
    have h2 := prodv_lt (val := val) (i := i) (L := L) (k := m) fun k' hk => h k' i hk (Nat.lt_succ_self i)
    refine (F.plus_lt2 h1 h2).mono ?_
    rw [← Nat.pow_add]
    have e : (i + 1) * (m * L + 2) + 1 = (i * (m * L + 2) + 1 + (m * L + 1)) + 1 := by rw [Nat.succ_mul]; omega
    rw [e, Nat.pow_succ (n := 10), Nat.mul_comm]
    exact Nat.mul_le_mul_left _ (by decide)
theorem sum_room {i n m L : Nat} (hi : i ≤ n) (hm : m ≤ 2) (hL : i = 0 ∨ 1 ≤ L) (h : n * L ≤ 6000) : i * (m * L + 2) + 1 ≤ 9 * 3000 := by
  have h1 : i * L ≤ 6000 := Nat.le_trans (Nat.mul_le_mul_right _ hi) h
  have h2 : i * (m * L) ≤ 2 * (i * L) := by
    rw [Nat.mul_left_comm]
    exact Nat.mul_le_mul_right _ hm
  have h3 : i ≤ i * L := by
    rcases hL with rfl | hL
    · omega
    · exact Nat.le_mul_of_pos_right _ hL
  rw [Nat.mul_add]
  omega
theorem ten_M : 10 ^ (9 * 3000) ≤ M.B ^ 3000 := by
  have h := Nat.pow_le_pow_left (show 10 ^ 9 ≤ M.B by decide +kernel) 3000
  exact Nat.le_trans (Nat.le_of_eq (Nat.pow_mul 10 9 3000)) h
theorem ten_Dr : 10 ^ (9 * 3000) ≤ D.B ^ 3000 := by
  have h := Nat.pow_le_pow_left (show 10 ^ 9 ≤ D.B by decide +kernel) 3000
  exact Nat.le_trans (Nat.le_of_eq (Nat.pow_mul 10 9 3000)) h
theorem room_M {e : Nat} {x : Rat} (h : F.Lt (10 ^ e) x) (he : e ≤ 9 * 3000) : F.Lt (M.B ^ 3000) x := h.mono (Nat.le_trans (Nat.pow_le_pow_right (by decide) he) ten_M)
theorem room_D {e : Nat} {x : Rat} (h : F.Lt (10 ^ e) x) (he : e ≤ 9 * 3000) : F.Lt (D.B ^ 3000) x := h.mono (Nat.le_trans (Nat.pow_le_pow_right (by decide) he) ten_Dr)

/-- The m lists of n texts each, which a slice of slices in block b holds. -/
def Lsts (w : World) (b m n : Nat) (txt : Nat → Nat → ByteArray) : Prop :=
  ∃ vs : Array Value, w.heap[b]? = some (.cells vs 23 (0, 0)) ∧ ∀ k, k < m → ∃ A c, vs[k]? = some (.slice A n c) ∧
    (0 < n → ∃ b' off, A = some ⟨b', off, none⟩ ∧ b' < w.heap.size ∧ ∀ i, i < n → w.cell? ⟨b', off + i, none⟩ = some (.string (txt k i)))
theorem Lsts.lt {w : World} {b m n : Nat} {txt : Nat → Nat → ByteArray} (h : Lsts w b m n txt) : b < w.heap.size := by obtain ⟨vs, h, _⟩ := h; exact lt_of_block h
theorem Lsts.below {w w' : World} {b m n : Nat} {txt : Nat → Nat → ByteArray} (h : Lsts w b m n txt) (hb : Below w.heap.size w w') : Lsts w' b m n txt := by
  have hl := h.lt
  obtain ⟨vs, h, hk⟩ := h
  refine ⟨vs, (hb.block _ hl).trans h, fun k hk' => ?_⟩
  obtain ⟨A, c, h1, h2⟩ := hk k hk'
  refine ⟨A, c, h1, fun h0 => ?_⟩
  obtain ⟨b', off, e, h3, h4⟩ := h2 h0
  exact ⟨b', off, e, Nat.lt_of_lt_of_le h3 hb.size, fun i hi => (hb.cell h3).trans (h4 i hi)⟩
theorem Lsts.list {w : World} {b m n : Nat} {txt : Nat → Nat → ByteArray} (h : Lsts w b m n txt) {k : Nat} (hk : k < m) : ∃ A c, w.cell? ⟨b, k, none⟩ = some (.slice A n c) ∧
    (0 < n → ∃ b' off, A = some ⟨b', off, none⟩ ∧ b' < w.heap.size ∧ ∀ i, i < n → w.cell? ⟨b', off + i, none⟩ = some (.string (txt k i))) := by
  obtain ⟨vs, h, hv⟩ := h
  obtain ⟨A, c, h1, h2⟩ := hv k hk
  exact ⟨A, c, cell_at h h1, h2⟩
end Go.Proofs.YtigplffpnbdkeaaGreatDoor
