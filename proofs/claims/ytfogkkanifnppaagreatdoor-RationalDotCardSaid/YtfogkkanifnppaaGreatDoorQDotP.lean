/- Sums and dot products of short lists: what they give, and that they are linear; lists of texts as slices. -/
import Derived.Test.YtfogkkanifnppaaGreatDoorQSopB
import Derived.Test.YtfogkkanifnppaaGreatDoorQSrcR
import Derived.Test.YtfogkkanifnppaaGreatDoorQPure
namespace Go.Proofs.YtfogkkanifnppaaGreatDoor
open Go Go.RowKit

/-- The text i of a list. -/
def txtL (ts : List ByteArray) (i : Nat) : ByteArray := (ts[i]?).getD ⟨#[]⟩
theorem own_form {w : World} {base n : Nat} {v : Value} {ts : List ByteArray} (h : w.ownsRow base 25 1 v n (ts.map Value.string)) (hl : ts.length = n) : ∃ A c, v = .slice A n c ∧ Lst1 w A n (txtL ts) := by
  have h0 := h
  rcases h.2 with ⟨rfl, rfl⟩ | ⟨g', cap, cur, rfl, _, hg, _⟩
  · exact ⟨none, 0, rfl, fun h => absurd h (by omega)⟩
  · refine ⟨_, _, rfl, fun _ => ⟨g', 0, rfl, lt_of_block hg, fun i hi => ?_⟩⟩
    rw [Nat.zero_add, h0.cellAt i (by omega)]
    have hi' : i < ts.length := by omega
    simp [txtL, hi']
theorem prodv_one' {val : Nat → Nat → Option Rat} {i : Nat} : prodv val i 1 = (val 0 i).getD 0 := Rat.one_mul _
theorem prodv_two' {val : Nat → Nat → Option Rat} {i : Nat} : prodv val i 2 = (val 0 i).getD 0 * (val 1 i).getD 0 := by
  show prodv val i 1 * _ = _
  rw [prodv_one']
/-- Two lists by their number. -/
def two {α : Type} (f h : Nat → α) : Nat → Nat → α
  | 0 => f
  | _ => h
def dotv (X Y : Nat → Rat) (n : Nat) : Rat := sumv 2 (fun k i => some (two X Y k i)) n
def addv (X : Nat → Rat) (n : Nat) : Rat := sumv 1 (fun _ i => some (X i)) n
theorem dotv_succ (X Y : Nat → Rat) (n : Nat) : dotv X Y (n + 1) = dotv X Y n + X n * Y n := by
  show sumv 2 _ n + prodv _ n 2 = _
  rw [prodv_two']; rfl
theorem addv_succ (X : Nat → Rat) (n : Nat) : addv X (n + 1) = addv X n + X n := by
  show sumv 1 _ n + prodv _ n 1 = _
  rw [prodv_one']; rfl
theorem add_is_dot (X : Nat → Rat) : ∀ n, addv X n = dotv (fun _ => 1) X n
  | 0 => rfl
  | n + 1 => by rw [addv_succ, dotv_succ, add_is_dot X n, Rat.one_mul]
theorem dot_linear (X Y Z : Nat → Rat) : ∀ n, dotv X (fun i => Y i + Z i) n = dotv X Y n + dotv Z X n
  | 0 => by show (0 : Rat) = 0 + 0; rw [Rat.add_zero]
  | n + 1 => by rw [dotv_succ, dotv_succ, dotv_succ, dot_linear X Y Z n]; grind
/-- A short list's texts are fractions of at most three digits. -/
def Small3 (n : Nat) (ta : Nat → ByteArray) (X : Nat → Rat) : Prop := ∀ i, i < n → Short (ta i) ∧ Rd (ta i) (some (X i)) ∧ qdig (some (X i)) ≤ 3
theorem small_sum {m n : Nat} {val : Nat → Nat → Option Rat} {v : Value} (hm1 : 1 ≤ m) (hm2 : m ≤ 2) (hn : n ≤ 6) (hs : ∀ k i, k < m → i < n → ∃ x, val k i = some x ∧ qdig (some x) ≤ 3) (h : SumRes m n val v) :
    v = .tuple #[.string ⟨(rtx (sumv m val n)).toArray⟩, .int .i64 0] ∧ F.Lt (10 ^ 49) (sumv m val n) := by
  have hlt := sumv_lt (m := m) (val := val) (L := 3) (i := n) fun k i hk hi => hs k i hk hi
  have hb : F.Lt (10 ^ 49) (sumv m val n) := hlt.mono (Nat.pow_le_pow_right (by decide) (by
    have h1 : n * (m * 3 + 2) ≤ 6 * 8 := Nat.mul_le_mul hn (by omega)
    omega))
  refine ⟨?_, hb⟩
  rcases h with ⟨⟨k, i, hk, hi, hn'⟩, _⟩ | ⟨_, L, hL, ⟨h6, _⟩ | ⟨_, rfl⟩⟩
  · obtain ⟨x, hx, _⟩ := hs k i hk hi
    rw [hx] at hn'; exact absurd hn' (by simp)
  · have hL3 : L ≤ 3 := by
      rcases hL.2 with h0 | ⟨k, i, ⟨hk, hi⟩, he⟩
      · omega
      · obtain ⟨x, hx, hd⟩ := hs k i hk hi
        rw [← he, hx]; exact hd
    have : n * L ≤ 6 * 3 := Nat.mul_le_mul hn hL3
    omega
  · exact qgive_ok (k := 49) hb (by omega) (by omega)
theorem sum_ok {w : World} {A : Option Addr} {n c : Nat} {ta : Nat → ByteArray} {X : Nat → Rat} (he : Env w) (hn : n ≤ 6) (h : Lst1 w A n ta) (hX : Small3 n ta X) :
    Calls Tryz.prog 47 #[.slice A n c] w fun e w' => e = .returned (.tuple #[.string ⟨(rtx (addv X n)).toArray⟩, .int .i64 0]) ∧ F.Lt (10 ^ 49) (addv X n) ∧ Below w.heap.size w w' := by
  refine (qsum_any (txt := fun _ => ta) (val := fun _ i => some (X i)) he (by omega) h (fun k i _ hi => ⟨(hX i hi).1, (hX i hi).2.1⟩)).mono ?_
  rintro e w' ⟨v, rfl, hr, hb⟩
  have hs := small_sum (by omega) (by omega) hn (fun k i _ hi => ⟨_, rfl, (hX i hi).2.2⟩) hr
  exact ⟨congrArg Ending.returned hs.1, hs.2, hb⟩
theorem dot_ok {w : World} {A A' : Option Addr} {n c c' : Nat} {ta tb : Nat → ByteArray} {X Y : Nat → Rat} (he : Env w) (hn : n ≤ 6) (h : Lst1 w A n ta) (h' : Lst1 w A' n tb) (hX : Small3 n ta X) (hY : Small3 n tb Y) :
    Calls Tryz.prog 49 #[.slice A n c, .slice A' n c'] w fun e w' => e = .returned (.tuple #[.string ⟨(rtx (dotv X Y n)).toArray⟩, .int .i64 0]) ∧ F.Lt (10 ^ 49) (dotv X Y n) ∧ Below w.heap.size w w' := by
  refine (qdot_any (txt := two ta tb) (val := fun k i => some (two X Y k i)) he (by omega) h h' (fun k i hk hi => ?_)).mono ?_
  · match k, hk with
    | 0, _ => exact ⟨(hX i hi).1, (hX i hi).2.1⟩
    | 1, _ => exact ⟨(hY i hi).1, (hY i hi).2.1⟩
  rintro e w' ⟨v, rfl, hr, hb⟩
  have hs := small_sum (m := 2) (by omega) (by omega) hn (fun k i hk hi => ⟨_, rfl, by
    match k, hk with
    | 0, _ => exact (hX i hi).2.2
    | 1, _ => exact (hY i hi).2.2⟩) hr
  exact ⟨congrArg Ending.returned hs.1, hs.2, hb⟩
end Go.Proofs.YtfogkkanifnppaaGreatDoor
