/- Package rational's Sum and Dot; the reference's light. -/
import Derived.Test.YtigplffpnbdkeaaGreatDoorQSop
namespace Go.Proofs.YtigplffpnbdkeaaGreatDoor
open Go Go.RowKit

/-- A slice of n texts. -/
def Lst1 (w : World) (A : Option Addr) (n : Nat) (txt : Nat → ByteArray) : Prop :=
  0 < n → ∃ b off, A = some ⟨b, off, none⟩ ∧ b < w.heap.size ∧ ∀ i, i < n → w.cell? ⟨b, off + i, none⟩ = some (.string (txt i))
theorem Lst1.below {w w' : World} {A : Option Addr} {n : Nat} {txt : Nat → ByteArray} (h : Lst1 w A n txt) (hb : Below w.heap.size w w') : Lst1 w' A n txt := by
  intro h0
  obtain ⟨b, off, e, hl, hc⟩ := h h0
  exact ⟨b, off, e, Nat.lt_of_lt_of_le hl hb.size, fun i hi => (hb.cell hl).trans (hc i hi)⟩
theorem lsts_one {w : World} {A : Option Addr} {n c : Nat} {txt : Nat → Nat → ByteArray} (h : Lst1 w A n (txt 0)) : Lsts (w.alloc (.cells #[.slice A n c] 23)) w.heap.size 1 n txt := by
  refine ⟨_, heap_alloc_new w _, fun k hk => ?_⟩
  obtain rfl : k = 0 := by omega
  exact ⟨A, c, rfl, h.below ((Below.refl _ _).alloc (Nat.le_refl _) _)⟩
theorem lsts_two {w : World} {A A' : Option Addr} {n c c' : Nat} {txt : Nat → Nat → ByteArray} (h : Lst1 w A n (txt 0)) (h' : Lst1 w A' n (txt 1)) : Lsts (w.alloc (.cells #[.slice A n c, .slice A' n c'] 23)) w.heap.size 2 n txt := by
  refine ⟨_, heap_alloc_new w _, fun k hk => ?_⟩
  match k, hk with
  | 0, _ => exact ⟨A, c, rfl, h.below ((Below.refl _ _).alloc (Nat.le_refl _) _)⟩
  | 1, _ => exact ⟨A', c', rfl, h'.below ((Below.refl _ _).alloc (Nat.le_refl _) _)⟩
/-- The texts of m lists, and what they read as. -/
def Reads_ (m n : Nat) (txt : Nat → Nat → ByteArray) (val : Nat → Nat → Option Rat) : Prop := ∀ k i, k < m → i < n → Short (txt k i) ∧ Rd (txt k i) (val k i)
set_option linter.unusedSimpArgs false in
set_option maxHeartbeats 6400000 in
set_option maxRecDepth 100000 in
theorem qsum_any {w : World} {A : Option Addr} {n c : Nat} {txt : Nat → Nat → ByteArray} {val : Nat → Nat → Option Rat} (he : Env w) (hn : n ≤ 100000) (h : Lst1 w A n (txt 0)) (hv : Reads_ 1 n txt val) :
    Calls Tryz.prog 14 #[.slice A n c] w fun e w' => ∃ v, e = .returned v ∧ SumRes 1 n val v ∧ Below w.heap.size w w' := by
  have hA := (Below.refl w.heap.size w).alloc (Nat.le_refl _) (.cells #[.slice A n c] 23)
  have H := Lib.hid (And.intro (he.below hA) (And.intro (lsts_one (c := c) h) (And.intro hv hA)))
  clear he h hv hA
  go_enter Tryz.func14, Tryz.ntmps14
  go_wp2_with fail
  refine (sop_any (m := 1) H.out.1 (by omega) (by omega) hn H.out.2.1 H.out.2.2.1).mono ?_
  rintro e w1 ⟨v, rfl, hr, hb⟩
  obtain ⟨o, co, rfl⟩ := hr.two
  have H1 := Lib.hid (And.intro hr (H.out.2.2.2.trans (hb.mono H.out.2.2.2.size)))
  clear hr hb
  go_wp2
  go_ret2
  exact ⟨_, rfl, H1.out⟩
set_option linter.unusedSimpArgs false in
set_option maxHeartbeats 6400000 in
set_option maxRecDepth 100000 in
theorem qdot_any {w : World} {A A' : Option Addr} {n c c' : Nat} {txt : Nat → Nat → ByteArray} {val : Nat → Nat → Option Rat} (he : Env w) (hn : n ≤ 100000) (h : Lst1 w A n (txt 0)) (h' : Lst1 w A' n (txt 1)) (hv : Reads_ 2 n txt val) :
    Calls Tryz.prog 16 #[.slice A n c, .slice A' n c'] w fun e w' => ∃ v, e = .returned v ∧ SumRes 2 n val v ∧ Below w.heap.size w w' := by
  have hA := (Below.refl w.heap.size w).alloc (Nat.le_refl _) (.cells #[.slice A n c, .slice A' n c'] 23)
  have H := Lib.hid (And.intro (he.below hA) (And.intro (lsts_two (c := c) (c' := c') h h') (And.intro hv hA)))
  clear he h h' hv hA
  go_enter Tryz.func16, Tryz.ntmps16
  go_wp2_with fail
  refine (sop_any (m := 2) H.out.1 (by omega) (by omega) hn H.out.2.1 H.out.2.2.1).mono ?_
  rintro e w1 ⟨v, rfl, hr, hb⟩
  obtain ⟨o, co, rfl⟩ := hr.two
  have H1 := Lib.hid (And.intro hr (H.out.2.2.2.trans (hb.mono H.out.2.2.2.size)))
  clear hr hb
  go_wp2
  go_ret2
  exact ⟨_, rfl, H1.out⟩
set_option linter.unusedSimpArgs false in
set_option maxHeartbeats 6400000 in
set_option maxRecDepth 100000 in
theorem qdot_shape {w : World} {A A' : Option Addr} {n n' c c' : Nat} (hn : n ≠ n') :
    Calls Tryz.prog 16 #[.slice A n c, .slice A' n' c'] w fun e w' => e = .returned (.tuple #[.string ⟨#[]⟩, .int .i64 5]) ∧ Below w.heap.size w w' := by
  have hne : ((n : Int) == (n' : Int)) = false := by rw [beq_eq_false_iff_ne]; omega
  clear hn
  go_enter Tryz.func16, Tryz.ntmps16
  go_wp2
  go_ret2
  exact ⟨rfl, Below.refl _ _⟩
set_option linter.unusedSimpArgs false in
set_option maxHeartbeats 6400000 in
set_option maxRecDepth 100000 in
theorem ddot_shape {w : World} {A A' : Option Addr} {n n' c c' : Nat} (hn : n ≠ n') :
    Calls Tryz.prog 17 #[.slice A n c, .slice A' n' c'] w fun e w' => e = .returned (.tuple #[.string ⟨#[]⟩, .int .i64 5]) ∧ Below w.heap.size w w' := by
  have hne : ((n : Int) == (n' : Int)) = false := by rw [beq_eq_false_iff_ne]; omega
  clear hn
  go_enter Tryz.func17, Tryz.ntmps17
  go_wp2
  go_ret2
  exact ⟨rfl, Below.refl _ _⟩
/-- What light gives: 1, 3 or 0. -/
def LightRes (m n : Nat) (val : Nat → Nat → Option Rat) (c : Int) : Prop :=
  ((∃ k i, k < m ∧ i < n ∧ val k i = none) ∧ c = 1) ∨
  ((∀ k i, k < m → i < n → val k i ≠ none) ∧ ∃ L, IsMax val (fun k i => k < m ∧ i < n) L ∧ ((6000 < n * L ∧ c = 3) ∨ (n * L ≤ 6000 ∧ c = 0)))
set_option linter.unusedSimpArgs false in
set_option maxHeartbeats 6400000 in
set_option maxRecDepth 100000 in
theorem light_any {w : World} {b m n : Nat} {txt : Nat → Nat → ByteArray} {val : Nat → Nat → Option Rat} (hm1 : 1 ≤ m) (hm2 : m ≤ 2) (hn : n ≤ 100000) (h : Lsts w b m n txt) (hv : Reads_ m n txt val) :
    Calls Tryz.prog 44 #[.slice (some ⟨b, 0, none⟩) m m] w fun e w' => ∃ c, e = .returned (.int .i64 c) ∧ LightRes m n val c ∧ Below w.heap.size w w' := by
  have H := Lib.hid (And.intro h hv)
  clear h hv
  go_enter Tryz.func44, Tryz.ntmps44
  go_wp2_with fail
  go_loopg [3, 4, 11] m (fun gh dv nv kv wr => ∃ (k L N : Nat), k + gh = m ∧ kv = .int .i64 (k : Int) ∧ dv = .int .i64 (L : Int) ∧ nv = .int .i64 (N : Int) ∧ (N = if k = 0 then 0 else n) ∧ (∀ k' i', k' < k → i' < n → val k' i' ≠ none) ∧ IsMax val (fun k' i' => k' < k ∧ i' < n) L ∧ L ≤ 400 ∧ Below w.heap.size w wr)
  case atStart => exact ⟨0, 0, 0, by omega, rfl, rfl, rfl, rfl, fun _ _ h => absurd h (by omega), IsMax.none fun _ _ h => absurd h.1 (by omega), by omega, by first | exact Below.refl _ _ | exact ((Below.refl _ _).drew)⟩
  case round =>
    obtain ⟨k, L, N, hk, rfl, rfl, rfl, hN, hok, hmax, hL, hb0⟩ := hrel
    have hNn : N ≤ n := by rw [hN]; split <;> omega
    by_cases hkm : k < m
    · obtain ⟨A, c, hlc0, hrest⟩ := H.out.1.list hkm
      have hlc := (hb0.cell (p := ⟨b, k, none⟩) H.out.1.lt).trans hlc0
      have hNmax : max N n = n := by omega
      have HO := Lib.hid (And.intro hok (And.intro hmax (And.intro hb0 (And.intro hrest (And.intro hN hL)))))
      clear hok hmax hb0 hrest hN hlc0 hNmax
      have hNN : max (N : Int) (n : Int) = (n : Int) := by omega
      go_wp2_with fail
      go_loopg [3, 21] n (fun gh dv iv wr => ∃ (i L : Nat), i + gh = n ∧ iv = .int .i64 (i : Int) ∧ dv = .int .i64 (L : Int) ∧ (∀ i', i' < i → val k i' ≠ none) ∧ IsMax val (fun k' i' => (k' < k ∧ i' < n) ∨ (k' = k ∧ i' < i)) L ∧ L ≤ 400 ∧ Below w.heap.size w wr)
      case atStart => exact ⟨0, L, by omega, rfl, rfl, fun _ h => absurd h (by omega), HO.out.2.1.iff fun k' i' => by omega, hL, HO.out.2.2.1⟩
      case round =>
        clear hlc
        obtain ⟨i, L, hi, rfl, rfl, hok, hmax, hL2, hb0⟩ := hrel
        by_cases hin : i < n
        · obtain ⟨b', off, rfl, hb', hcs⟩ := HO.out.2.2.2.1 (by omega)
          have htc := (hb0.cell (p := ⟨b', off + i, none⟩) hb').trans (hcs i hin)
          have htx := H.out.2 k i hkm hin
          obtain ⟨s, hs⟩ : ∃ s, s = txt k i := ⟨_, rfl⟩
          rw [← hs] at htc htx
          obtain ⟨r, hr⟩ : ∃ r, r = val k i := ⟨_, rfl⟩
          rw [← hr] at htx
          have HI := Lib.hid (And.intro htx (And.intro hr (And.intro hok (And.intro hmax hb0))))
          clear hok hmax hb0 htx hr hs hb' hcs
          go_wp2_with fail
          refine (dvalid_any s HI.out.1.1 HI.out.1.2).mono ?_
          rintro e w1 ⟨rfl, hb⟩
          have H1 := Lib.hid (HI.out.2.2.2.2.trans (hb.mono HI.out.2.2.2.2.size))
          clear hb htc
          cases r with
          | none =>
            go_wp2
            go_ret
            exact ⟨_, rfl, .inl ⟨⟨k, i, hkm, hin, HI.out.2.1.symm⟩, rfl⟩, H1.out⟩
          | some y =>
            have hdy := qdig_le HI.out.1.2
            go_wp2_with fail
            refine (ddigits_any s HI.out.1.1 HI.out.1.2).mono ?_
            rintro e w2 ⟨rfl, hb⟩
            have H2 := Lib.hid (H1.out.trans (hb.mono H1.out.size))
            clear hb
            obtain ⟨d, hd⟩ : ∃ d, d = qdig (some y) := ⟨_, rfl⟩
            rw [← hd] at hdy ⊢
            have HD := Lib.hid hd
            clear hd
            go_wp2
            go_roundg (n - (i + 1))
            case measure => omega
            case rel =>
              refine ⟨i + 1, max L d, by omega, by go_num, by go_num, fun i' hi' => ?_, ?_, by omega, H2.out⟩
              · by_cases e : i' = i
                · rw [e, ← HI.out.2.1]; simp
                · exact HI.out.2.2.1 i' (by omega)
              · have hx := HI.out.2.2.2.1.add (k0 := k) (i0 := i) (P' := fun k' i' => (k' < k ∧ i' < n) ∨ (k' = k ∧ i' < i + 1)) fun k' i' => by omega
                rw [← HI.out.2.1, ← HD.out] at hx
                exact hx
        · have ein : n = i := by omega
          subst ein
          have HI := Lib.hid (And.intro hok (And.intro hmax hb0))
          clear hok hmax hb0
          go_wp2
          go_roundg (m - (k + 1))
          case measure => omega
          case rel =>
            refine ⟨k + 1, L, n, by omega, by go_num, rfl, by go_num, by simp, fun k' i' hk' hi' => ?_, HI.out.2.1.iff fun k' i' => by omega, hL2, HI.out.2.2⟩
            by_cases e : k' = k
            · rw [e]; exact HI.out.1 i' hi'
            · exact HO.out.1 k' i' (by omega) hi'
    · have ekm : m = k := by omega
      subst ekm
      rw [if_neg (by omega)] at hN
      subst hN
      have hnL : N * L ≤ 100000 * 400 := Nat.mul_le_mul hn hL
      have hm0 : (0 : Int) ≤ (N : Int) * (L : Int) := by rw [← Int.natCast_mul]; omega
      have hm1' : (N : Int) * (L : Int) ≤ 40000000 := by rw [← Int.natCast_mul]; omega
      have HK := Lib.hid (And.intro hok (And.intro hmax hb0))
      clear hok hmax hb0
      by_cases hle : N * L ≤ 6000
      · have hle' : ¬ 6000 < (N : Int) * (L : Int) := by rw [← Int.natCast_mul]; omega
        go_wp2
        go_ret
        exact ⟨_, rfl, .inr ⟨HK.out.1, L, HK.out.2.1, .inr ⟨hle, rfl⟩⟩, HK.out.2.2⟩
      · have hle' : 6000 < (N : Int) * (L : Int) := by rw [← Int.natCast_mul]; omega
        go_wp2
        go_ret
        exact ⟨_, rfl, .inr ⟨HK.out.1, L, HK.out.2.1, .inl ⟨by omega, rfl⟩⟩, HK.out.2.2⟩
end Go.Proofs.YtigplffpnbdkeaaGreatDoor
