/- integer.Div. Gcd of integers. Gcd. sane: the examples of the chapter. The source of numbers: Mod, N, Big, New. The source of numbers: New and Big. Texts of numbers, with a bound: what Big, Add, Sub and Mul give. -/
import Derived.Test.YtjghgbfagjhdgaaGreatDoorArith
import Derived.Test.YtjghgbfagjhdgaaGreatDoorIntG
import Derived.Test.YtjghgbfagjhdgaaGreatDoorGcdN
import Derived.Test.YtjghgbfagjhdgaaGreatDoorIntC
import Derived.IntWalk
import Derived.Lib.LaidTab
namespace Go.Proofs.YtjghgbfagjhdgaaGreatDoor
open Go Go.RowKit

theorem nDigits_le {k : Nat} : ∀ {a : Nat}, 1 ≤ k → a < 10 ^ k → Lib.nDigits a ≤ k := by
  induction k with
  | zero => intro a h; omega
  | succ k ih =>
    intro a _ h
    by_cases h10 : a < 10
    · rw [Lib.nDigits_small h10]; omega
    · rw [Lib.nDigits_big h10]
      rw [Nat.pow_succ] at h
      have hk : 1 ≤ k := by
        rcases Nat.eq_zero_or_pos k with h0 | h0
        · subst h0; omega
        · exact h0
      have := ih hk (a := a / 10) (by omega)
      omega
theorem nDigits_mono {a b : Nat} (h : a ≤ b) : Lib.nDigits a ≤ Lib.nDigits b :=
  nDigits_le (Lib.nDigits_pos b) (Nat.lt_of_le_of_lt h (Lib.lt_pow_nDigits b))
theorem quo_small {p q : Int} (hq : q ≠ 0) : (p / q).natAbs ≤ p.natAbs ∧ (p % q).natAbs ≤ q.natAbs := by
  refine ⟨Int.natAbs_ediv_le_natAbs p q, ?_⟩
  have := Int.emod_nonneg p hq
  have := Int.emod_lt p hq
  omega
theorem cell_at {w : World} {g j : Nat} {cs : Array Value} {t : TypeId} {v : Value} (h : w.heap[g]? = some (.cells cs t (0, 0))) (hj : cs[j]? = some v) : w.cell? ⟨g, j, none⟩ = some v := by
  simp [World.cell?, h, hj]
theorem itoa_zero {z : Int} (h : Lib.itoa z = [48]) : z = 0 := by
  by_cases h0 : z.natAbs = 0
  · omega
  · exfalso
    by_cases hn : z < 0
    · rw [T.itoa_neg hn] at h
      injection h with h _
      exact absurd h (by decide)
    · rw [T.itoa_nonneg hn] at h
      exact T.decDigits_head (by omega) _ _ h rfl

end Go.Proofs.YtjghgbfagjhdgaaGreatDoor
namespace Go.Proofs.YtjghgbfagjhdgaaGreatDoor
open Go Go.RowKit

set_option maxHeartbeats 1600000 in
set_option maxRecDepth 100000 in
theorem gcd_int_short {w : World} {a b : Value} {p q : Int} (ha : IsInt w a p) (hb : IsInt w b q) (hp : p.natAbs ≤ 4611686018427387903) (hq : q.natAbs ≤ 4611686018427387903) :
    Calls Tryz.prog 121 #[a, b] w fun e w' => ∃ v, e = .returned v ∧ IsInt w' v ((Nat.gcd p.natAbs q.natAbs : Nat) : Int) ∧ Below w.heap.size w w' := by
  obtain ⟨m, hm⟩ : ∃ m, m = p.natAbs := ⟨_, rfl⟩
  obtain ⟨n, hn⟩ : ∃ n, n = q.natAbs := ⟨_, rfl⟩
  obtain ⟨G, hG⟩ : ∃ G, G = Nat.gcd m n := ⟨_, rfl⟩
  have hGb : G ≤ 4611686018427387903 := by
    rw [hG]
    rcases Nat.eq_zero_or_pos m with h | h
    · rw [h, Nat.gcd_zero_left]; omega
    · exact Nat.le_trans (Nat.gcd_le_left n h) (by omega)
  have b1 : m < M.B * M.B := by rw [M.B_eq]; omega
  have b2 : n < M.B * M.B := by rw [M.B_eq]; omega
  have wG : IntKind.i64.wrap (G : Int) = (G : Int) := IntWalk.i64_in _ (by omega)
  rw [← hm, ← hn, ← hG]
  have p1 : -9223372036854775808 ≤ p := by omega
  have p2 : p ≤ 9223372036854775807 := by omega
  have q1' : -9223372036854775808 ≤ q := by omega
  have q2' : q ≤ 9223372036854775807 := by omega
  have H := Lib.hid (And.intro ha (And.intro hb (And.intro hp (And.intro hq (And.intro hm (And.intro hn hG))))))
  obtain ⟨A, l, c, rfl, ha1⟩ := ha.shape_s (wrd_short hp).symm
  obtain ⟨A', l', c', rfl, hb1⟩ := hb.shape_s (wrd_short hq).symm
  clear ha hb ha1 hb1 hp hq hm hn hG
  go_enter Tryz.func121, Tryz.ntmps121
  go_wp2_with fail
  change Calls _ _ _ (box3 w p q (.slice A l c) (.slice A' l' c')) _
  have h0 := box3_two w p q (.slice A l c) (.slice A' l' c')
  generalize box3 w p q (.slice A l c) (.slice A' l' c') = W0 at *
  refine (short_yes (H.out.1.below h0.below (Nat.le_refl _)) H.out.2.2.1).mono ?_
  rintro e W1 ⟨rfl, hb1⟩
  have h1 := h0.next hb1 (Nat.le_refl _)
  have b0 := h1.b0
  have b1' := h1.b1
  clear h0 hb1
  go_wp2_with fail
  refine (short_yes (H.out.2.1.below h1.below (Nat.le_refl _)) H.out.2.2.2.1).mono ?_
  rintro e W2 ⟨rfl, hb1⟩
  have hB := h1.next hb1 (Nat.le_refl _)
  have hD := hB.drew
  clear b0 b1' h1 hb1
  go_wp2_with fail
  go_region_held3 (fun w' => w'.cell? ⟨w.heap.size, 0, none⟩ = some (.int .i64 p) ∧ w'.cell? ⟨w.heap.size, 1, none⟩ = some (.slice A l c) ∧ w'.cell? ⟨w.heap.size + 1, 0, none⟩ = some (.int .i64 q) ∧ w'.cell? ⟨w.heap.size + 1, 1, none⟩ = some (.slice A' l' c') ∧ Two w w' p q (.slice A l c) (.slice A' l' c'))
    (first | exact ⟨k7.a0, k7.a1, k7.b0, k7.b1, k7⟩ | exact ⟨k6.a0, k6.a1, k6.b0, k6.b1, k6⟩ | exact ⟨hD.a0, hD.a1, hD.b0, hD.b1, hD⟩)
    (first
      | (go_at_call 116; go_split_ands; ((with_reducible refine (magnitude_any p p1 p2).mono ?_); rw [← H.out.2.2.2.2.1]; rintro e w1 ⟨rfl, rfl⟩))
      | (go_at_call 116; go_split_ands; ((with_reducible refine (magnitude_any q q1' q2').mono ?_); rw [← H.out.2.2.2.2.2.1]; rintro e w1 ⟨rfl, rfl⟩))
      | (go_at_call 173; go_split_ands; ((with_reducible refine (gcd64_any m n b1 b2).mono ?_); rw [← H.out.2.2.2.2.2.2]; rintro e w6 ⟨rfl, hd6⟩; have k6 : Two w w6 p q (.slice A l c) (.slice A' l' c') := Two.next hD (hd6.below _) (Nat.le_refl _); obtain ⟨v0, c0⟩ := k6.r.c0; obtain ⟨v1, c1⟩ := k6.r.c1; have f0 := k6.r.f0; have f1 := k6.r.f1; have k7 := k6.put (G : Int) none 0 0)))
  go_wp2
  have HF := Lib.hid (And.intro (k6.r.put0 (G : Int) none 0 0) (And.intro (k6.r.put1 (G : Int) none 0 0) k7.below))
  rw [show (w6.setCell ⟨w.heap.size + 1 + 1, 0, none⟩ (.int .i64 (G : Int))).setCell ⟨w.heap.size + 1 + 1, 1, none⟩ (.slice none 0 0) = setInt w6 (w.heap.size + 1 + 1) (G : Int) none 0 0 from rfl]
  clear k7
  obtain ⟨z0, z1, z3⟩ := HF.out
  generalize setInt w6 (w.heap.size + 1 + 1) (G : Int) none 0 0 = W4 at *
  exact bodyPost_ret (v := .agg #[.int .i64 (G : Int), .slice none 0 0]) (by simp [results, Tryz.results121, go_sem, z0, z1]) rfl ⟨_, rfl, IsInt.short _ (by omega), z3⟩

set_option maxHeartbeats 3200000 in
set_option maxRecDepth 100000 in
theorem gcd_int_long {w : World} {a b : Value} {p q : Int} {k : Nat} (ha : IsInt w a p) (hb : IsInt w b q) (hp : p.natAbs < M.B ^ k) (hq : q.natAbs < M.B ^ k) (hk1 : 1 ≤ k) (hk : k ≤ 29000)
    (hl : ¬ (p.natAbs ≤ 4611686018427387903 ∧ q.natAbs ≤ 4611686018427387903)) :
    Calls Tryz.prog 121 #[a, b] w fun e w' => ∃ v, e = .returned v ∧ IsInt w' v ((Nat.gcd p.natAbs q.natAbs : Nat) : Int) ∧ Below w.heap.size w w' := by
  obtain ⟨G, hG⟩ : ∃ G, G = Nat.gcd p.natAbs q.natAbs := ⟨_, rfl⟩
  have hGb : G < M.B ^ k := by
    rw [hG]
    rcases Nat.eq_zero_or_pos p.natAbs with h | h
    · rw [h, Nat.gcd_zero_left]; exact hq
    · exact Nat.lt_of_le_of_lt (Nat.gcd_le_left _ h) hp
  rw [← hG]
  have HGG := Lib.hid (And.intro hG hGb)
  have H := Lib.hid (And.intro ha (And.intro hb hl))
  obtain ⟨s, hs⟩ : ∃ s, s = wrd p := ⟨_, rfl⟩
  obtain ⟨t, ht⟩ : ∃ t, t = wrd q := ⟨_, rfl⟩
  obtain ⟨A, l, c, rfl, ha1⟩ := ha.shape_s hs
  obtain ⟨A', l', c', rfl, hb1⟩ := hb.shape_s ht
  obtain ⟨r, hr⟩ : ∃ r, r = wrd (G : Int) := ⟨_, rfl⟩
  have HRR := Lib.hid hr
  clear ha hb ha1 hb1 hs ht hl hr hG hGb
  rcases Classical.em (p.natAbs ≤ 4611686018427387903) with hps | h3p
  focus
    have h2q : ¬ q.natAbs ≤ 4611686018427387903 := fun h => H.out.2.2 ⟨hps, h⟩
    have HPQ := Lib.hid (And.intro hps h2q)
    clear hps h2q
    go_enter Tryz.func121, Tryz.ntmps121
    go_wp2_with fail
    change Calls _ _ _ (box3 w s t (.slice A l c) (.slice A' l' c')) _
    have h0 := box3_two w s t (.slice A l c) (.slice A' l' c')
    generalize box3 w s t (.slice A l c) (.slice A' l' c') = W0 at *
    refine (short_yes (H.out.1.below h0.below (Nat.le_refl _)) HPQ.out.1).mono ?_
    rintro e W1 ⟨rfl, hb1⟩
    have h1 := h0.next hb1 (Nat.le_refl _)
    have b0 := h1.b0
    have b1 := h1.b1
    clear h0 hb1
    go_wp2_with fail
    refine (short_no (H.out.2.1.below h1.below (Nat.le_refl _)) HPQ.out.2).mono ?_
    rintro e W2 ⟨rfl, hb1⟩
    have hB := h1.next hb1 (Nat.le_refl _)
    clear b0 b1 h1 hb1
  rotate_left
  focus
    have HPQ := Lib.hid h3p
    clear h3p
    go_enter Tryz.func121, Tryz.ntmps121
    go_wp2_with fail
    change Calls _ _ _ (box3 w s t (.slice A l c) (.slice A' l' c')) _
    have h0 := box3_two w s t (.slice A l c) (.slice A' l' c')
    generalize box3 w s t (.slice A l c) (.slice A' l' c') = W0 at *
    refine (short_no (H.out.1.below h0.below (Nat.le_refl _)) HPQ.out).mono ?_
    rintro e W2 ⟨rfl, hb1⟩
    have hB := h0.next hb1 (Nat.le_refl _)
    clear h0 hb1
  all_goals
    have a0 := hB.a0
    have a1 := hB.a1
    have b0 := hB.b0
    have b1 := hB.b1
    go_wp2_with fail
    have hD := hB.drew
    go_region_held3 (fun w' => w'.cell? ⟨w.heap.size, 0, none⟩ = some (.int .i64 s) ∧ w'.cell? ⟨w.heap.size, 1, none⟩ = some (.slice A l c) ∧ w'.cell? ⟨w.heap.size + 1, 0, none⟩ = some (.int .i64 t) ∧ w'.cell? ⟨w.heap.size + 1, 1, none⟩ = some (.slice A' l' c') ∧ Two w w' s t (.slice A l c) (.slice A' l' c'))
      (first | exact ⟨q7.a0, q7.a1, q7.b0, q7.b1, q7⟩ | exact ⟨q6.a0, q6.a1, q6.b0, q6.b1, q6⟩ | exact ⟨q5.a0, q5.a1, q5.b0, q5.b1, q5⟩ | exact ⟨q4.a0, q4.a1, q4.b0, q4.b1, q4⟩ | exact ⟨q3.a0, q3.a1, q3.b0, q3.b1, q3⟩ | exact ⟨hD.a0, hD.a1, hD.b0, hD.b1, hD⟩)
      (first
        | (go_at_call 119; go_split_ands; ((with_reducible refine (limbs_any (H.out.1.below hD.below (Nat.le_refl _))).mono ?_); rintro e w3 ⟨x, rfl, hx, hb3⟩; obtain ⟨X, lx, cx, rfl⟩ := hx.shape; have q3 : Two w w3 s t (.slice A l c) (.slice A' l' c') := Two.next hD hb3 (Nat.le_refl _)))
        | (go_at_call 119; go_split_ands; ((with_reducible refine (limbs_any (H.out.2.1.below q3.below (Nat.le_refl _))).mono ?_); rintro e w4 ⟨y, rfl, hy, hb4⟩; obtain ⟨Y, ly, cy, rfl⟩ := hy.shape; have HX := Lib.hid (And.intro (hx.below hb4 (Nat.le_refl _)) hy); clear hx hy; have q4 : Two w w4 s t (.slice A l c) (.slice A' l' c') := Two.next q3 hb4 (Nat.le_refl _)))
        | (go_at_call 174; go_split_ands; ((with_reducible refine (gcd_nat (k := k) HX.out.1 HX.out.2 hp hq hk1 (by omega)).mono ?_); rintro e w5 ⟨u, rfl, hu, hb5⟩; rw [← HGG.out.1] at hu; have HU := Lib.hid hu; clear hu; have q5 : Two w w5 s t (.slice A l c) (.slice A' l' c') := Two.next q4 hb5 (Nat.le_refl _)))
        | (go_at_call 114; go_split_ands; ((with_reducible refine (signed_any (k := k) false HU.out HGG.out.2 (by omega)).mono ?_); rintro e w6 ⟨v, rfl, hv, hb6⟩; have q6 : Two w w6 s t (.slice A l c) (.slice A' l' c') := Two.next q5 hb6 (Nat.le_refl _); obtain ⟨X6, l6, c6, rfl, hv6⟩ := hv.shape_s HRR.out; have HV := Lib.hid hv6; clear hv hv6; obtain ⟨v0, c0⟩ := q6.r.c0; obtain ⟨v1, c1⟩ := q6.r.c1; have f0 := q6.r.f0; have f1 := q6.r.f1; have q7 := q6.put r X6 l6 c6)))
    go_wp2
    have HF := Lib.hid (And.intro (q6.r.put0 r X6 l6 c6) (And.intro (q6.r.put1 r X6 l6 c6) (And.intro (q6.r.size HV.out r X6 l6 c6) q7.below)))
    rw [show (w6.setCell ⟨w.heap.size + 1 + 1, 0, none⟩ (.int .i64 r)).setCell ⟨w.heap.size + 1 + 1, 1, none⟩ (.slice X6 l6 c6) = setInt w6 (w.heap.size + 1 + 1) r X6 l6 c6 from rfl]
    clear q7
    obtain ⟨z0, z1, z2, z3⟩ := HF.out
    generalize setInt w6 (w.heap.size + 1 + 1) r X6 l6 c6 = W3 at *
    exact bodyPost_ret (v := .agg #[.int .i64 r, .slice X6 l6 c6]) (by simp [results, Tryz.results121, go_sem, z0, z1]) rfl ⟨_, rfl, ⟨X6, l6, c6, by rw [HRR.out], z2⟩, z3⟩

theorem gcd_int {w : World} {a b : Value} {p q : Int} {k : Nat} (ha : IsInt w a p) (hb : IsInt w b q) (hp : p.natAbs < M.B ^ k) (hq : q.natAbs < M.B ^ k) (hk1 : 1 ≤ k) (hk : k ≤ 29000) :
    Calls Tryz.prog 121 #[a, b] w fun e w' => ∃ v, e = .returned v ∧ IsInt w' v ((Nat.gcd p.natAbs q.natAbs : Nat) : Int) ∧ Below w.heap.size w w' := by
  by_cases h : p.natAbs ≤ 4611686018427387903 ∧ q.natAbs ≤ 4611686018427387903
  · exact gcd_int_short ha hb h.1 h.2
  · exact gcd_int_long ha hb hp hq hk1 hk h
end Go.Proofs.YtjghgbfagjhdgaaGreatDoor
namespace Go.Proofs.YtjghgbfagjhdgaaGreatDoor
open Go Go.RowKit

theorem cf_gcd (args : Array Value) (w : World) : (callFunc 121 args).run Tryz.prog w = .ok (.enter 121 args) w := by kernel_rfl
theorem gcd_le_pow {p q : Int} (hp : Lib.nDigits p.natAbs ≤ 400) (hq : Lib.nDigits q.natAbs ≤ 400) : Lib.nDigits (Nat.gcd p.natAbs q.natAbs) ≤ 400 := by
  by_cases h : p.natAbs = 0
  · rw [h, Nat.gcd_zero_left]; exact hq
  · exact Nat.le_trans (nDigits_mono (Nat.gcd_le_left _ (by omega))) hp
end Go.Proofs.YtjghgbfagjhdgaaGreatDoor
namespace Go.Proofs.YtjghgbfagjhdgaaGreatDoor
open Go Go.RowKit

theorem txt_m7 : Lib.itoa (-7) = [45, 55] := by decide +kernel
theorem txt_2 : Lib.itoa 2 = [50] := by decide +kernel
theorem txt_m2 : Lib.itoa (-2) = [45, 50] := by decide +kernel
theorem txt_m12 : Lib.itoa (-12) = [45, 49, 50] := by decide +kernel
theorem txt_18 : Lib.itoa 18 = [49, 56] := by decide +kernel
theorem txt_m4 : Lib.itoa (-4) = [45, 52] := by decide +kernel
theorem txt_1 : Lib.itoa 1 = [49] := by decide +kernel
theorem txt_4 : Lib.itoa 4 = [52] := by decide +kernel
theorem txt_6 : Lib.itoa 6 = [54] := by decide +kernel
theorem txt_m5 : Lib.itoa (-5) = [45, 53] := by decide +kernel
theorem nd_small {n : Nat} (h : n < 100) : Lib.nDigits n ≤ 400 := Nat.le_trans (nDigits_le (k := 2) (by omega) (by omega)) (by omega)
theorem sane_valid {w : World} : Calls Tryz.prog 192 #[.string ⟨#[45, 49, 50, 48]⟩] w fun e w' => e = .returned (.bool true) ∧ w = w' := by
  have h := valid_any (w := w) ⟨#[45, 49, 50, 48]⟩
  rw [show vld (⟨#[45, 49, 50, 48]⟩ : ByteArray).data.toList = true by decide +kernel] at h
  exact h
end Go.Proofs.YtjghgbfagjhdgaaGreatDoor
namespace Go.Proofs.YtjghgbfagjhdgaaGreatDoor
open Go Go.RowKit

def modv (x n : Int) : Int := (x.tmod n + n).tmod n
theorem modv_range (x n : Int) (hn : 1 ≤ n) : 0 ≤ modv x n ∧ modv x n < n := by
  have h1 := Int.tmod_lt_of_pos x (show 0 < n by omega)
  have h2 : -n < x.tmod n := by
    rcases Int.le_total 0 x with h | h
    · have := Int.tmod_nonneg n h; omega
    · have h3 := Int.tmod_lt_of_pos (-x) (show 0 < n by omega)
      rw [Int.neg_tmod] at h3; omega
  unfold modv
  rw [Int.tmod_eq_emod_of_nonneg (by omega)]
  exact ⟨Int.emod_nonneg _ (by omega), Int.emod_lt_of_pos _ (by omega)⟩
set_option maxHeartbeats 400000 in
theorem mod_any {w : World} (x n : Int) (hn : 1 ≤ n) (hn' : n ≤ 1000) (_ : -9223372036854775808 ≤ x) (_ : x ≤ 9223372036854775807) :
    Calls Tryz.prog 42 #[.int .i64 x, .int .i64 n] w fun e w' => e = .returned (.int .i64 (modv x n)) ∧ w = w' := by
  have h1 := Int.tmod_lt_of_pos x (show 0 < n by omega)
  have h2 : -n < x.tmod n := by
    rcases Int.le_total 0 x with h | h
    · have := Int.tmod_nonneg n h; omega
    · have h3 := Int.tmod_lt_of_pos (-x) (show 0 < n by omega)
      rw [Int.neg_tmod] at h3; omega
  go_enter Tryz.func42, Tryz.ntmps42
  go_wp2
  go_ret
  exact ⟨by unfold modv; rw [Int.tmod_eq_emod_of_nonneg (a := x.tmod n + n) (by omega)]; rfl, rfl⟩

/-- Block g is a source of numbers. -/
def SrcIn (w : World) (g : Nat) : Prop :=
  ∃ A n c at_, w.heap[g]? = some (.cells #[.slice A n c, .int .i64 ((at_ : Nat) : Int)] 71 (0, 0)) ∧ at_ ≤ n ∧ n ≤ 600 ∧
    (0 < n → ∃ b off, A = some ⟨b, off, none⟩ ∧ b < g ∧ ∀ i, i < n → ∃ z : Int, w.cell? ⟨b, off + i, none⟩ = some (.int .i64 z) ∧ -9223372036854775808 ≤ z ∧ z ≤ 9223372036854775807)
theorem SrcIn.lt {w : World} {g : Nat} (h : SrcIn w g) : g < w.heap.size := by obtain ⟨A, n, c, a, h, _⟩ := h; exact lt_of_block h
theorem SrcIn.below {w w' : World} {g : Nat} (h : SrcIn w g) (hb : Below w.heap.size w w') : SrcIn w' g := by
  obtain ⟨A, n, c, a, hh, h1, h2, h3⟩ := h
  refine ⟨A, n, c, a, (hb.block g (lt_of_block hh)).trans hh, h1, h2, fun h0 => ?_⟩
  obtain ⟨b, off, e, hbl, hc⟩ := h3 h0
  refine ⟨b, off, e, hbl, fun i hi => ?_⟩
  obtain ⟨z, hz, hr⟩ := hc i hi
  exact ⟨z, (hb.cell (Nat.lt_trans hbl (lt_of_block hh))).trans hz, hr⟩

set_option maxHeartbeats 800000 in
set_option maxRecDepth 100000 in
theorem n_any {w : World} {g : Nat} (m : Int) (h : SrcIn w g) (hm : 1 ≤ m) (hm' : m ≤ 1000) :
    Calls Tryz.prog 11 #[.pointer (some ⟨g, 0, none⟩), .int .i64 m] w fun e w' => ∃ r : Int, e = .returned (.int .i64 r) ∧ (0 ≤ r ∧ r < m) ∧ SrcIn w' g ∧ Below g w w' := by
  have hg := h.lt
  have HS := Lib.hid h
  obtain ⟨A, n, c, a, hh, h1, h2, h3⟩ := h
  have c0 : w.cell? ⟨g, 0, none⟩ = some (.slice A n c) := cell_at hh rfl
  have c1 : w.cell? ⟨g, 1, none⟩ = some (.int .i64 (a : Int)) := cell_at hh rfl
  have f1 : w.frozen? ⟨g, 1, none⟩ = false := by simp [World.frozen?, hh]
  have H := Lib.hid (And.intro hh h3)
  clear hh h3
  by_cases hlt : a < n
  · obtain ⟨b, off, rfl, hbl, hc⟩ := H.out.2 (by omega)
    obtain ⟨z, hz, hz1, hz2⟩ := hc a hlt
    have hge : decide ((n : Int) ≤ (a : Int)) = false := decide_eq_false (by omega)
    have HC := Lib.hid (And.intro hc (And.intro hz1 hz2))
    clear hc hz1 hz2
    go_enter Tryz.func11, Tryz.ntmps11
    go_wp2_with fail
    go_quiet (fail)
    go_wp2_with fail
    obtain ⟨w2, hw2⟩ : ∃ w2, w2 = (w.drewN nq).setCell ⟨g, 1, none⟩ (.int .i64 ((a : Int) + 1)) := ⟨_, rfl⟩
    rw [← hw2]
    have hb2 : Below g w w2 := by
      rw [hw2]
      exact Below.setCell ((Drawn.refl w).drewN nq |>.below g) (Nat.le_refl _) _
    have hh2 : w2.heap[g]? = some (.cells #[.slice (some ⟨b, off, none⟩) n c, .int .i64 ((a + 1 : Nat) : Int)] 71 (0, 0)) := by
      rw [hw2]
      exact Lib.heap_setCell_same (i := 1) (show (w.drewN nq).heap[g]? = _ from H.out.1) _
    have d0 : w2.cell? ⟨g, 0, none⟩ = some (.slice (some ⟨b, off, none⟩) n c) := cell_at hh2 rfl
    have d1 : w2.cell? ⟨g, 1, none⟩ = some (.int .i64 ((a : Int) + 1)) := cell_at hh2 rfl
    have dz : w2.cell? ⟨b, off + a, none⟩ = some (.int .i64 z) := (hb2.cell hbl).trans hz
    have hs2 : SrcIn w2 g := by
      refine ⟨_, n, c, a + 1, hh2, hlt, h2, fun _ => ⟨b, off, rfl, hbl, fun i hi => ?_⟩⟩
      obtain ⟨z, hz, hr⟩ := HC.out.1 i hi
      exact ⟨z, (hb2.cell hbl).trans hz, hr⟩
    have H2 := Lib.hid (And.intro hs2 hb2)
    clear hs2 hb2 hh2 hw2 c0 c1 f1 hz
    have hr := modv_range z m hm
    generalize hv : modv z m = v at *
    have HV := Lib.hid hv
    clear hv
    go_wp2_with fail
    go_quiet ((go_at_call 42; exact Calls.quiet_left (mod_any z m hm hm' HC.out.2.1 HC.out.2.2)))
    go_wp2
    go_ret
    exact ⟨_, rfl, by rw [HV.out]; exact hr, H2.out.1.below ((Drawn.refl w2).drewN nq |>.below _), H2.out.2.trans (((Drawn.refl w2).drewN nq |>.below g))⟩
  · have hge : decide ((n : Int) ≤ (a : Int)) = true := decide_eq_true (by omega)
    go_enter Tryz.func11, Tryz.ntmps11
    go_wp2_with fail
    go_quiet (fail)
    go_wp2_with fail
    go_ret
    exact ⟨0, rfl, ⟨by omega, by omega⟩, HS.out.below ((Drawn.refl w).drewN nq |>.below _), (Drawn.refl w).drewN nq |>.below g⟩
end Go.Proofs.YtjghgbfagjhdgaaGreatDoor
namespace Go.Proofs.YtjghgbfagjhdgaaGreatDoor
open Go Go.RowKit

/-- What the law is handed: a slice of whole numbers. -/
def Nums (w : World) (A : Option Addr) (n : Nat) : Prop :=
  n ≤ maxLen ∧ (0 < n → ∃ b off, A = some ⟨b, off, none⟩ ∧ b < w.heap.size ∧ ∀ i, i < n → ∃ z : Int, w.cell? ⟨b, off + i, none⟩ = some (.int .i64 z) ∧ -9223372036854775808 ≤ z ∧ z ≤ 9223372036854775807)

set_option maxHeartbeats 800000 in
set_option maxRecDepth 100000 in
theorem new_any {w : World} {A : Option Addr} {n c : Nat} (h : Nums w A n) (hc : n ≤ c) (_ : c ≤ maxLen) :
    Calls Tryz.prog 10 #[.slice A n c] w fun e w' => ∃ g, e = .returned (.pointer (some ⟨g, 0, none⟩)) ∧ w.heap.size ≤ g ∧ SrcIn w' g ∧ Below w.heap.size w w' := by
  have H := Lib.hid h
  have hn := h.1
  clear h
  go_enter Tryz.func10, Tryz.ntmps10
  go_wp2_with fail
  go_ret
  refine ⟨w.heap.size, rfl, Nat.le_refl _, ?_, (Below.refl _ _).alloc (Nat.le_refl _) _⟩
  refine ⟨A, (min (n : Int) 600).toNat, c, 0, heap_alloc_new w _, Nat.zero_le _, by omega, fun h0 => ?_⟩
  obtain ⟨b, off, e, hb, hc⟩ := H.out.2 (by omega)
  refine ⟨b, off, e, hb, fun i hi => ?_⟩
  obtain ⟨z, hz, hr⟩ := hc i (by omega)
  exact ⟨z, (Below.cell ((Below.refl w.heap.size w).alloc (Nat.le_refl _) _) hb).trans hz, hr⟩

theorem conv_one (w : World) {d : Int} (h0 : 0 ≤ d) (h1 : d < 256) :
    (convert 66 9 (.slice (some ⟨w.heap.size, 0, none⟩) 1 1)).run Tryz.prog (w.alloc (.cells #[.int .u8 d] 5)) = .ok (.string ⟨[UInt8.ofNat d.toNat].toArray⟩) (w.alloc (.cells #[.int .u8 d] 5)) := by
  refine run_convert_bytes_back (P := Tryz.prog) (w.alloc (.cells #[.int .u8 d] 5)) 66 9 5 ⟨w.heap.size, 0, none⟩ 1 [UInt8.ofNat d.toNat] Tryz.underlying66 Tryz.underlying5 Tryz.underlying9 (fun j hj => ?_)
  obtain rfl : j = 0 := by simpa using hj
  have e : (([UInt8.ofNat d.toNat][0]).toNat : Int) = d := by
    show ((UInt8.ofNat d.toNat).toNat : Int) = d
    rw [UInt8.toNat_ofNat']; omega
  rw [e]
  exact cell_at (heap_alloc_new w _) rfl
theorem bytes_app (l r : List UInt8) : (⟨l.toArray⟩ : ByteArray) ++ ⟨r.toArray⟩ = ⟨(l ++ r).toArray⟩ := by
  apply ByteArray.ext
  simp
theorem SrcIn.alloc {w : World} {g : Nat} (h : SrcIn w g) (o : Obj) : SrcIn (w.alloc o) g := h.below ((Below.refl _ _).alloc (Nat.le_refl _) _)
/-- Digits, the first not a 0. -/
def Digs (l : List UInt8) : Prop := (∀ c ∈ l, T.digit c = true) ∧ ∀ c r, l = c :: r → c ≠ 48
theorem Digs.nil : Digs [] := ⟨fun _ h => absurd h (by simp), fun _ _ h => absurd h (by simp)⟩
theorem Digs.snoc {l : List UInt8} (h : Digs l) {d : Int} (h0 : 0 ≤ d) (h1 : d < 10) (hz : l = [] → 1 ≤ d) : Digs (l ++ [UInt8.ofNat (48 + d).toNat]) := by
  have e : (48 + d).toNat = 48 + d.toNat := by omega
  rw [e]
  have hb := T.dig_byte (show d.toNat < 10 by omega)
  refine ⟨fun c hc => ?_, fun c r he => ?_⟩
  · rcases List.mem_append.1 hc with h2 | h2
    · exact h.1 c h2
    · rw [List.mem_singleton] at h2
      rw [h2, T.digit_iff, hb]; omega
  · cases l with
    | nil =>
      injection he with e1 _
      intro e2
      rw [← e1] at e2
      have e3 : (UInt8.ofNat (48 + d.toNat)).toNat = 48 := by rw [e2]; rfl
      have := hz rfl
      omega
    | cons c' r' =>
      injection he with e1 _
      rw [← e1]; exact h.2 c' r' rfl
theorem Digs.itoa {l : List UInt8} (h : Digs l) (h0 : l ≠ []) : ∃ u : Nat, 0 < u ∧ l = Lib.decDigits u ∧ Lib.nDigits u = l.length := by
  have he := T.decDigits_num l h.1 h0 h.2
  refine ⟨T.num l, ?_, he.symm, by rw [← Lib.decDigits_length, he]⟩
  rcases Nat.eq_zero_or_pos (T.num l) with h1 | h1
  · exfalso
    rw [h1] at he
    have e0 : Lib.decDigits 0 = [48] := by decide +kernel
    rw [e0] at he
    exact h.2 48 [] he.symm rfl
  · exact h1

end Go.Proofs.YtjghgbfagjhdgaaGreatDoor
namespace Go.Proofs.YtjghgbfagjhdgaaGreatDoor
open Go Go.RowKit

/-- s is the text of z, and z is below 10^k. -/
def Num (s : ByteArray) (z : Int) (k : Nat) : Prop := s.data.toList = Lib.itoa z ∧ z.natAbs < 10 ^ k
theorem Num.mono {s : ByteArray} {z : Int} {k m : Nat} (h : Num s z k) (hk : k ≤ m) : Num s z m :=
  ⟨h.1, Nat.lt_of_lt_of_le h.2 (Nat.pow_le_pow_right (by decide) hk)⟩
theorem Num.nd {s : ByteArray} {z : Int} {k : Nat} (h : Num s z k) (hk : 1 ≤ k) (hk' : k ≤ 400) : Lib.nDigits z.natAbs ≤ 400 :=
  Nat.le_trans (nDigits_le hk h.2) hk'
theorem Num.eq {s t : ByteArray} {z y : Int} {k m : Nat} (h : Num s z k) (h' : Num t y m) (e : z = y) : s = t := by
  apply ByteArray.ext
  apply Array.ext'
  rw [h.1, h'.1, e]
theorem bnd_add {p q : Int} {k : Nat} (hp : p.natAbs < 10 ^ k) (hq : q.natAbs < 10 ^ k) : (p + q).natAbs < 10 ^ (k + 1) ∧ (p - q).natAbs < 10 ^ (k + 1) := by
  rw [Nat.pow_succ]
  omega
theorem bnd_mul {p q : Int} {k m : Nat} (hp : p.natAbs < 10 ^ k) (hq : q.natAbs < 10 ^ m) : (p * q).natAbs < 10 ^ (k + m) := by
  rw [Int.natAbs_mul, Nat.pow_add]
  exact Nat.mul_lt_mul'' hp hq
theorem give_small {z : Int} (h : Lib.nDigits z.natAbs ≤ 400) : give z = .tuple #[.string ⟨(Lib.itoa z).toArray⟩, .int .i64 0] := by
  unfold give; rw [if_pos h]

/-- The source, and the world behind the beginning. -/
def Run (w : World) (g : Nat) (w' : World) : Prop := w.heap.size ≤ g ∧ SrcIn w' g ∧ Below w.heap.size w w' ∧ Tab w
theorem Run.tab {w w1 : World} {g : Nat} (h : Run w g w1) : Tab w1 := h.2.2.2.below h.2.2.1
theorem Run.big {w w1 w2 : World} {g : Nat} (h : Run w g w1) (hs : SrcIn w2 g) (hb : Below g w1 w2) : Run w g w2 :=
  ⟨h.1, hs, h.2.2.1.trans (hb.mono h.1), h.2.2.2⟩
theorem Run.op {w w1 w2 : World} {g : Nat} (h : Run w g w1) (hb : Below w1.heap.size w1 w2) : Run w g w2 :=
  ⟨h.1, h.2.1.below hb, h.2.2.1.trans (hb.mono h.2.2.1.size), h.2.2.2⟩
theorem Run.new {w : World} (ht : Tab w) {A : Option Addr} {n c : Nat} (h : Nums w A n) (hc : n ≤ c) (hcm : c ≤ maxLen) :
    Calls Tryz.prog 10 #[.slice A n c] w fun e w' => ∃ g, e = .returned (.pointer (some ⟨g, 0, none⟩)) ∧ Hid (Run w g w') :=
  (new_any h hc hcm).mono fun _ _ ⟨g, he, hg, hs, hb⟩ => ⟨g, he, Lib.hid ⟨hg, hs, hb, ht⟩⟩
end Go.Proofs.YtjghgbfagjhdgaaGreatDoor
