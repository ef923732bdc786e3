/- The steps applied. gcd of naturals: Lehmer's. -/
import Derived.Test.YthnbocojjllfaaaGreatDoorSteps
import Derived.Deep.RegionHeld3
import Derived.WalkSpells
import Derived.Test.YthnbocojjllfaaaGreatDoorDivAll
import Derived.Deep.LoopGhost
namespace Go.Proofs.YthnbocojjllfaaaGreatDoor
open Go Go.RowKit

theorem le_limb {n : Nat} (h : n < M.B) : n ≤ 4294967295 := by rw [M.B_eq] at h; omega
def ApplyPost (w : World) (u v : Nat) (e : Ending) (w' : World) : Prop := ∃ s t, e = .returned (.tuple #[s, t]) ∧ IsNat w' s u ∧ IsNat w' t v ∧ Below w.heap.size w w'
set_option maxHeartbeats 1600000 in
set_option maxRecDepth 100000 in
theorem apply_even {w : World} {A A' : Option Addr} {l l' x y a0 b0 a1 b1 u v : Nat} (c c' : Nat) (hx : Limbs w A l x) (hy : Limbs w A' l' y) (G : M.Give x y a0 b0 a1 b1 true u v) (hl : l ≤ 60000) (hl' : l' ≤ 60000) :
    Calls Tryz.prog 189 #[eucV a0 b0 a1 b1 true, .slice A l c, .slice A' l' c'] w (ApplyPost w u v) := by
  have q0 := le_limb G.a0
  have q1 := le_limb G.b0
  have q2 := le_limb G.a1
  have q3 := le_limb G.b1
  have hu : (u : Int) = a0 * x - b0 * y := by have := G.hu; simpa [M.rho] using this
  have hv : (v : Int) = b1 * y - a1 * x := by have := G.hv; simpa [M.rho] using this
  have hyL : y < M.B ^ (max l l') := Nat.lt_of_lt_of_le hy.1 (M.pow_mono (Nat.le_max_right _ _))
  have huL : u < M.B ^ (max l l') := Nat.lt_of_le_of_lt G.le hyL
  have hvL : v < M.B ^ (max l' l) := by rw [Nat.max_comm]; exact Nat.lt_trans G.lt huL
  have H := Lib.hid (And.intro hx (And.intro hy (And.intro hu (And.intro hv (And.intro huL hvL)))))
  clear hx hy G hu hv huL hvL hyL
  unfold eucV
  go_enter Tryz.func189, Tryz.ntmps189
  go_wp2_with fail
  have hE : Euc (w.alloc (.cells #[.int .u64 (a0 : Int), .int .u64 (b0 : Int), .int .u64 (a1 : Int), .int .u64 (b1 : Int), .bool true] 178)) w.heap.size a0 b0 a1 b1 true := heap_alloc_new w _
  have hb0 : Below w.heap.size w (w.alloc (.cells #[.int .u64 (a0 : Int), .int .u64 (b0 : Int), .int .u64 (a1 : Int), .int .u64 (b1 : Int), .bool true] 178)) := (Below.refl _ _).alloc (Nat.le_refl _) _
  generalize w.alloc (.cells #[.int .u64 (a0 : Int), .int .u64 (b0 : Int), .int .u64 (a1 : Int), .int .u64 (b1 : Int), .bool true] 178) = w0 at *
  have hD : Euc w0.drew w.heap.size a0 b0 a1 b1 true := hE
  have hbD : Below w.heap.size w w0.drew := hb0.drew
  go_region_held3 (fun w' => w'.cell? ⟨w.heap.size, 0, none⟩ = some (.int .u64 (a0 : Int)) ∧ w'.cell? ⟨w.heap.size, 1, none⟩ = some (.int .u64 (b0 : Int)) ∧ w'.cell? ⟨w.heap.size, 2, none⟩ = some (.int .u64 (a1 : Int)) ∧ w'.cell? ⟨w.heap.size, 3, none⟩ = some (.int .u64 (b1 : Int)) ∧ Euc w' w.heap.size a0 b0 a1 b1 true)
    (first | exact ⟨k2.c0, k2.c1, k2.c2, k2.c3, k2⟩ | exact ⟨k1.c0, k1.c1, k1.c2, k1.c3, k1⟩ | exact ⟨hD.c0, hD.c1, hD.c2, hD.c3, hD⟩)
    (first
      | (go_at_call 214; go_split_ands; ((with_reducible refine (combine_nat c c' (H.out.1.below hbD (Nat.le_refl _)) (H.out.2.1.below hbD (Nat.le_refl _)) hl hl' q0 q1 H.out.2.2.1 H.out.2.2.2.2.1).mono ?_); rintro e w1 ⟨s, rfl, hs, hb1⟩; have k1 : Euc w1 w.heap.size a0 b0 a1 b1 true := Euc.below hD hb1 hD.lt; have HB1 := Lib.hid (And.intro hs (hbD.trans (hb1.mono hbD.size))); clear hs))
      | (go_at_call 214; go_split_ands; ((with_reducible refine (combine_nat c' c (H.out.2.1.below HB1.out.2 (Nat.le_refl _)) (H.out.1.below HB1.out.2 (Nat.le_refl _)) hl' hl q3 q2 H.out.2.2.2.1 H.out.2.2.2.2.2).mono ?_); rintro e w2 ⟨t, rfl, ht, hb2⟩; have k2 : Euc w2 w.heap.size a0 b0 a1 b1 true := Euc.below k1 hb2 k1.lt; have HB2 := Lib.hid (And.intro (HB1.out.1.below hb2 (Nat.le_refl _)) (And.intro ht (HB1.out.2.trans (hb2.mono HB1.out.2.size)))); clear ht)))
  go_wp2
  go_ret2
  exact ⟨s, t, rfl, HB2.out.1, HB2.out.2.1, HB2.out.2.2⟩
set_option maxHeartbeats 1600000 in
set_option maxRecDepth 100000 in
theorem apply_odd {w : World} {A A' : Option Addr} {l l' x y a0 b0 a1 b1 u v : Nat} (c c' : Nat) (hx : Limbs w A l x) (hy : Limbs w A' l' y) (G : M.Give x y a0 b0 a1 b1 false u v) (hl : l ≤ 60000) (hl' : l' ≤ 60000) :
    Calls Tryz.prog 189 #[eucV a0 b0 a1 b1 false, .slice A l c, .slice A' l' c'] w (ApplyPost w u v) := by
  have q0 := le_limb G.a0
  have q1 := le_limb G.b0
  have q2 := le_limb G.a1
  have q3 := le_limb G.b1
  have hu : (u : Int) = b0 * y - a0 * x := by have := G.hu; simpa [M.rho] using this
  have hv : (v : Int) = a1 * x - b1 * y := by have := G.hv; simpa [M.rho] using this
  have hyL : y < M.B ^ (max l l') := Nat.lt_of_lt_of_le hy.1 (M.pow_mono (Nat.le_max_right _ _))
  have huL : u < M.B ^ (max l l') := Nat.lt_of_le_of_lt G.le hyL
  have hvL : v < M.B ^ (max l l') := Nat.lt_trans G.lt huL
  rw [Nat.max_comm] at huL
  have H := Lib.hid (And.intro hx (And.intro hy (And.intro hu (And.intro hv (And.intro huL hvL)))))
  clear hx hy G hu hv huL hvL hyL
  unfold eucV
  go_enter Tryz.func189, Tryz.ntmps189
  go_wp2_with fail
  have hE : Euc (w.alloc (.cells #[.int .u64 (a0 : Int), .int .u64 (b0 : Int), .int .u64 (a1 : Int), .int .u64 (b1 : Int), .bool false] 178)) w.heap.size a0 b0 a1 b1 false := heap_alloc_new w _
  have hb0 : Below w.heap.size w (w.alloc (.cells #[.int .u64 (a0 : Int), .int .u64 (b0 : Int), .int .u64 (a1 : Int), .int .u64 (b1 : Int), .bool false] 178)) := (Below.refl _ _).alloc (Nat.le_refl _) _
  generalize w.alloc (.cells #[.int .u64 (a0 : Int), .int .u64 (b0 : Int), .int .u64 (a1 : Int), .int .u64 (b1 : Int), .bool false] 178) = w0 at *
  have hD : Euc w0.drew w.heap.size a0 b0 a1 b1 false := hE
  have hbD : Below w.heap.size w w0.drew := hb0.drew
  go_region_held3 (fun w' => w'.cell? ⟨w.heap.size, 0, none⟩ = some (.int .u64 (a0 : Int)) ∧ w'.cell? ⟨w.heap.size, 1, none⟩ = some (.int .u64 (b0 : Int)) ∧ w'.cell? ⟨w.heap.size, 2, none⟩ = some (.int .u64 (a1 : Int)) ∧ w'.cell? ⟨w.heap.size, 3, none⟩ = some (.int .u64 (b1 : Int)) ∧ Euc w' w.heap.size a0 b0 a1 b1 false)
    (first | exact ⟨k2.c0, k2.c1, k2.c2, k2.c3, k2⟩ | exact ⟨k1.c0, k1.c1, k1.c2, k1.c3, k1⟩ | exact ⟨hD.c0, hD.c1, hD.c2, hD.c3, hD⟩)
    (first
      | (go_at_call 214; go_split_ands; ((with_reducible refine (combine_nat c' c (H.out.2.1.below hbD (Nat.le_refl _)) (H.out.1.below hbD (Nat.le_refl _)) hl' hl q1 q0 H.out.2.2.1 H.out.2.2.2.2.1).mono ?_); rintro e w1 ⟨s, rfl, hs, hb1⟩; have k1 : Euc w1 w.heap.size a0 b0 a1 b1 false := Euc.below hD hb1 hD.lt; have HB1 := Lib.hid (And.intro hs (hbD.trans (hb1.mono hbD.size))); clear hs))
      | (go_at_call 214; go_split_ands; ((with_reducible refine (combine_nat c c' (H.out.1.below HB1.out.2 (Nat.le_refl _)) (H.out.2.1.below HB1.out.2 (Nat.le_refl _)) hl hl' q2 q3 H.out.2.2.2.1 H.out.2.2.2.2.2).mono ?_); rintro e w2 ⟨t, rfl, ht, hb2⟩; have k2 : Euc w2 w.heap.size a0 b0 a1 b1 false := Euc.below k1 hb2 k1.lt; have HB2 := Lib.hid (And.intro (HB1.out.1.below hb2 (Nat.le_refl _)) (And.intro ht (HB1.out.2.trans (hb2.mono HB1.out.2.size)))); clear ht)))
  go_wp2
  go_ret2
  exact ⟨s, t, rfl, HB2.out.1, HB2.out.2.1, HB2.out.2.2⟩
theorem apply_any {w : World} {A A' : Option Addr} {l l' x y a0 b0 a1 b1 u v : Nat} {ev : Bool} (c c' : Nat) (hx : Limbs w A l x) (hy : Limbs w A' l' y) (G : M.Give x y a0 b0 a1 b1 ev u v) (hl : l ≤ 60000) (hl' : l' ≤ 60000) :
    Calls Tryz.prog 189 #[eucV a0 b0 a1 b1 ev, .slice A l c, .slice A' l' c'] w (ApplyPost w u v) := by
  cases ev
  · exact apply_odd c c' hx hy G hl hl'
  · exact apply_even c c' hx hy G hl hl'
end Go.Proofs.YthnbocojjllfaaaGreatDoor
namespace Go.Proofs.YthnbocojjllfaaaGreatDoor
open Go Go.RowKit

set_option maxHeartbeats 400000 in
theorem gcd64_any {w : World} (a b : Nat) (ha : a < M.B * M.B) (hb : b < M.B * M.B) :
    Calls Tryz.prog 160 #[.int .u64 (a : Int), .int .u64 (b : Int)] w fun e w' => e = .returned (.int .u64 (Nat.gcd a b : Int)) ∧ Drawn w w' := by
  have H := Lib.hid (And.intro ha hb)
  clear ha hb
  go_enter Tryz.func160, Tryz.ntmps160
  go_wp2_with fail
  go_loopw [0, 1] (fun av bv wr => ∃ x y : Nat, av = .int .u64 (x : Int) ∧ bv = .int .u64 (y : Int) ∧ x < M.B * M.B ∧ y < M.B * M.B ∧ Nat.gcd x y = Nat.gcd a b ∧ Drawn w wr) (fun _ bv _ => (intOf bv).toNat)
  case atStart => exact ⟨a, b, rfl, rfl, H.out.1, H.out.2, rfl, Drawn.refl _⟩
  case round =>
    obtain ⟨x, y, rfl, rfl, hx, hy, hg, hd⟩ := hrel
    have HR := Lib.hid (And.intro hx (And.intro hy (And.intro hg hd)))
    clear hx hy hg hd
    by_cases h0 : y = 0
    · subst h0
      go_wp2
      go_ret
      refine ⟨?_, HR.out.2.2.2⟩
      rw [← HR.out.2.2.1, Nat.gcd_zero_right]
      rfl
    · have hy0 : 1 ≤ y := by omega
      have hne : ((y : Int) != 0) = true := by rw [bne_iff_ne]; omega
      have hz : ¬ (y : Int) = 0 := by omega
      clear h0
      go_wp2_with fail
      go_quiet (fail)
      go_wp2
      go_roundw
      case rel =>
        refine ⟨y, x % y, rfl, ?_, HR.out.2.1, ?_, ?_, HR.out.2.2.2.drewN _⟩
        · first | rfl | rw [tmod_nat]
        · exact Nat.lt_trans (Nat.mod_lt _ (by omega)) HR.out.2.1
        · rw [← HR.out.2.2.1, Nat.gcd_comm y, ← Nat.gcd_rec, Nat.gcd_comm]
      case measure =>
        simp only [intOf]
        have h1 := Int.emod_lt_of_pos (x : Int) (show (0 : Int) < y by omega)
        have h2 := Int.emod_nonneg (x : Int) (show (y : Int) ≠ 0 by omega)
        omega

theorem pow3 (m : Nat) : M.B * M.B * M.B ^ (m + 1) = M.B ^ (m + 3) := by
  have h := Nat.pow_add M.B (m + 1) 2
  rw [Nat.pow_two] at h
  rw [show m + 3 = m + 1 + 2 by omega, h]
  exact Nat.mul_comm _ _
/-- The pair that the loop holds. -/
structure GPair (w wr : World) (av bv : Value) (p q k G : Nat) : Prop where
  hp : IsNat wr av p
  hq : IsNat wr bv q
  le : q ≤ p
  lt : p < M.B ^ k
  gcd : Nat.gcd p q = G
  below : Below w.heap.size w wr
def GcdPost (w : World) (G : Nat) (e : Ending) (w' : World) : Prop := ∃ v, e = .returned v ∧ IsNat w' v G ∧ Below w.heap.size w w'

set_option maxHeartbeats 3200000 in
set_option maxRecDepth 100000 in
theorem gcd_nat {w : World} {a b : Value} {x y k : Nat} (ha : IsNat w a x) (hb : IsNat w b y) (hx : x < M.B ^ k) (hy : y < M.B ^ k) (hk1 : 1 ≤ k) (hk : k ≤ 29000) :
    Calls Tryz.prog 161 #[a, b] w (GcdPost w (Nat.gcd x y)) := by
  obtain ⟨G, hG⟩ : ∃ G, G = Nat.gcd x y := ⟨_, rfl⟩
  rw [← hG]
  have H := Lib.hid (And.intro ha (And.intro hb hG))
  obtain ⟨A, l, c, rfl⟩ := ha.shape
  obtain ⟨A', l', c', rfl⟩ := hb.shape
  clear ha hb hG
  rcases Nat.lt_or_ge x y with hxy | hxy
  focus
    have hc := cmp_lt hxy
    have HXY := Lib.hid hxy
    clear hxy
    go_enter Tryz.func161, Tryz.ntmps161
    go_wp2_with fail
    refine (compare_nat H.out.1 H.out.2.1 hx hy (by omega)).mono ?_
    rintro e w1 ⟨rfl, hd⟩
    obtain ⟨p, q, hP⟩ : ∃ p q, GPair w w1 (.slice A' l' c') (.slice A l c) p q k G := ⟨y, x, H.out.2.1.drawn hd, H.out.1.drawn hd, Nat.le_of_lt HXY.out, hy, by rw [Nat.gcd_comm]; exact H.out.2.2.symm, hd.below _⟩
    have HP := Lib.hid hP
    clear hd hP
    go_wp2_with fail
  rotate_left
  focus
    have hc := cmp_ge hxy
    have HXY := Lib.hid hxy
    clear hxy
    go_enter Tryz.func161, Tryz.ntmps161
    go_wp2_with fail
    refine (compare_nat H.out.1 H.out.2.1 hx hy (by omega)).mono ?_
    rintro e w1 ⟨rfl, hd⟩
    obtain ⟨p, q, hP⟩ : ∃ p q, GPair w w1 (.slice A l c) (.slice A' l' c') p q k G := ⟨x, y, H.out.1.drawn hd, H.out.2.1.drawn hd, HXY.out, hx, H.out.2.2.symm, hd.below _⟩
    have HP := Lib.hid hP
    clear hd hP
    go_wp2_with fail
  all_goals
    clear hc HXY H hx hy
    go_loopg [0, 1] (q) (fun g av bv wr => ∃ P : Nat, GPair w wr av bv P g k G)
    case atStart => exact ⟨p, HP.out⟩
    case round =>
      obtain ⟨P, hP⟩ := hrel
      obtain ⟨A1, l1, c1, rfl, hl1, hm1, hlk1, hlc1, hcm1⟩ := hP.hp.open_ hP.lt
      obtain ⟨A2, l2, c2, rfl, hl2, hm2, hlk2, hlc2, hcm2⟩ := hP.hq.open_ (Nat.lt_of_le_of_lt hP.le hP.lt)
      have HQ := Lib.hid hP
      have HL := Lib.hid (And.intro hl1 hl2)
      have HM := Lib.hid (And.intro hm1 hm2)
      clear hP hl1 hl2 hm1 hm2
      by_cases h3 : 3 ≤ l2
      · have ht : (2 : Int) < (l2 : Int) := by omega
        have hq0 : 0 < gk := by
          have h1 := HM.out.2.resolve_left (by omega)
          have := M.pow_pos (l2 - 1); omega
        have hll : l2 ≤ l1 := by
          have h1 := HM.out.2.resolve_left (by omega)
          have h2 : M.B ^ (l2 - 1) < M.B ^ l1 := Nat.lt_of_le_of_lt h1 (Nat.lt_of_le_of_lt HQ.out.le HL.out.1.1)
          rcases Nat.lt_or_ge (l2 - 1) l1 with h3 | h3
          · omega
          · have := M.pow_mono h3; omega
        obtain ⟨m, rfl⟩ : ∃ m, l1 = m + 3 := ⟨l1 - 3, by omega⟩
        have hnx : M.B ^ (m + 2) ≤ P := HM.out.1.resolve_left (by omega)
        have HN := Lib.hid (And.intro hq0 hnx)
        clear hq0 hll hnx h3
        go_wp2_with fail
        refine (leading_any c1 c2 HL.out.1 HL.out.2 HQ.out.le HN.out.2 (by omega) (by omega)).mono ?_
        rintro e w2 ⟨s, he, hs, hXs, hb2⟩
        obtain ⟨ah, hah⟩ : ∃ ah, ah = P * 2 ^ s / M.B ^ (m + 1) := ⟨_, rfl⟩
        obtain ⟨bh, hbh⟩ : ∃ bh, bh = gk * 2 ^ s / M.B ^ (m + 1) := ⟨_, rfl⟩
        rw [← hah, ← hbh] at he
        subst he
        have hBB : M.B * M.B = 18446744073709551616 := by rw [M.B_eq]
        have hab : bh ≤ ah := by rw [hah, hbh]; exact Nat.div_le_div_right (Nat.mul_le_mul_right _ HQ.out.le)
        have ha64 : ah < M.B * M.B := by
          rw [hah]
          refine (Nat.div_lt_iff_lt_mul (M.pow_pos _)).2 ?_
          rw [pow3]
          exact hXs
        have hXe : ((P * 2 ^ s : Nat) : Int) = (ah : Int) * ((M.B ^ (m + 1) : Nat) : Int) + ((P * 2 ^ s % M.B ^ (m + 1) : Nat) : Int) := by
          rw [hah, ← Int.natCast_mul, ← Int.natCast_add, Nat.mul_comm (P * 2 ^ s / _), Nat.div_add_mod]
        have hYe : ((gk * 2 ^ s : Nat) : Int) = (bh : Int) * ((M.B ^ (m + 1) : Nat) : Int) + ((gk * 2 ^ s % M.B ^ (m + 1) : Nat) : Int) := by
          rw [hbh, ← Int.natCast_mul, ← Int.natCast_add, Nat.mul_comm (gk * 2 ^ s / _), Nat.div_add_mod]
        have hst := fun w => steps_any (w := w) ah bh hab (by omega) hXe hYe (Int.natCast_nonneg _) (Int.ofNat_lt.2 (Nat.mod_lt _ (M.pow_pos (m + 1)))) (Int.natCast_nonneg _) (Int.ofNat_lt.2 (Nat.mod_lt _ (M.pow_pos (m + 1))))
        have HST := Lib.hid (And.intro hst (And.intro ha64 hb2))
        clear hs hXs hb2 hah hbh hBB hab ha64 hXe hYe hst
        go_wp2_with fail
        refine (HST.out.1 _).mono ?_
        rintro e w3 ⟨ea, eb, a0, b0, a1, b1, na, nb, ev, rfl, hLeh, hb3⟩
        unfold eucV
        have hb4 : Below w.heap.size w w3 := (HQ.out.below.trans (HST.out.2.2.mono HQ.out.below.size)).trans (hb3.mono (Nat.le_trans HQ.out.below.size HST.out.2.2.size))
        have HP3 := Lib.hid (And.intro ((HQ.out.hp.below HST.out.2.2 (Nat.le_refl _)).below hb3 (Nat.le_refl _)) (And.intro ((HQ.out.hq.below HST.out.2.2 (Nat.le_refl _)).below hb3 (Nat.le_refl _)) (And.intro ((HL.out.1.below HST.out.2.2 (Nat.le_refl _)).below hb3 (Nat.le_refl _)) ((HL.out.2.below HST.out.2.2 (Nat.le_refl _)).below hb3 (Nat.le_refl _)))))
        have HLE := Lib.hid hLeh
        clear hLeh hb3
        have hE4 : Euc (w3.alloc (.cells #[.int .u64 (a0 : Int), .int .u64 (b0 : Int), .int .u64 (a1 : Int), .int .u64 (b1 : Int), .bool ev] 178)) w3.heap.size a0 b0 a1 b1 ev := heap_alloc_new w3 _
        have hb5 : Below w3.heap.size w3 (w3.alloc (.cells #[.int .u64 (a0 : Int), .int .u64 (b0 : Int), .int .u64 (a1 : Int), .int .u64 (b1 : Int), .bool ev] 178)) := (Below.refl _ _).alloc (Nat.le_refl _) _
        have HE4 := Lib.hid (And.intro hE4 (And.intro hb5 (hb4.trans (hb5.mono hb4.size))))
        clear hE4 hb5 hb4
        by_cases hz : b0 = 0
        · subst hz
          go_wp2_with fail
          generalize w3.alloc (.cells #[.int .u64 (a0 : Int), .int .u64 0, .int .u64 (a1 : Int), .int .u64 (b1 : Int), .bool ev] 178) = w4 at *
          refine (divide_all (k := k) (HP3.out.1.below HE4.out.2.1 (Nat.le_refl _)) (HP3.out.2.1.below HE4.out.2.1 (Nat.le_refl _)) HQ.out.lt (Nat.lt_of_le_of_lt HQ.out.le HQ.out.lt) hk1 (by omega) HN.out.1).mono ?_
          rintro e w5 ⟨u, v, rfl, hu, hv, hb6⟩
          obtain ⟨Xu, lu, cu, rfl⟩ := hu.shape
          obtain ⟨Xv, lv, cv, rfl⟩ := hv.shape
          have HU := Lib.hid (And.intro hv (And.intro ((HP3.out.2.1.below HE4.out.2.1 (Nat.le_refl _)).below hb6 (Nat.le_refl _)) (HE4.out.2.2.trans (hb6.mono HE4.out.2.2.size))))
          clear hu hv hb6
          go_wp2
          go_roundg (P % gk)
          case measure => exact Nat.mod_lt _ HN.out.1
          case rel => exact ⟨gk, HU.out.2.1, HU.out.1, Nat.le_of_lt (Nat.mod_lt _ HN.out.1), Nat.lt_of_le_of_lt HQ.out.le HQ.out.lt, by rw [Nat.gcd_comm, ← Nat.gcd_rec, Nat.gcd_comm]; exact HQ.out.gcd, HU.out.2.2⟩
        · have hzz : ((b0 : Int) == 0) = false := by rw [beq_eq_false_iff_ne]; omega
          have HZ := Lib.hid hz
          clear hz
          go_wp2_with fail
          generalize w3.alloc (.cells #[.int .u64 (a0 : Int), .int .u64 (b0 : Int), .int .u64 (a1 : Int), .int .u64 (b1 : Int), .bool ev] 178) = w4 at *
          obtain ⟨u, v, hg⟩ := M.Leh.give (x := P) (y := gk) (t := 2 ^ s) HLE.out (Nat.pow_pos (by decide)) HZ.out HST.out.2.1
          have hap := apply_any (w := w4) c1 c2 (HP3.out.2.2.1.below HE4.out.2.1 (Nat.le_refl _)) (HP3.out.2.2.2.below HE4.out.2.1 (Nat.le_refl _)) hg (by omega) (by omega)
          have HG := Lib.hid hg
          unfold eucV at hap
          refine hap.mono ?_
          clear hap hg
          rintro e w5 ⟨s1, t1, rfl, hu, hv, hb6⟩
          obtain ⟨Xu, lu, cu, rfl⟩ := hu.shape
          obtain ⟨Xv, lv, cv, rfl⟩ := hv.shape
          have HU := Lib.hid (And.intro hu (And.intro hv (HE4.out.2.2.trans (hb6.mono HE4.out.2.2.size))))
          clear hu hv hb6
          go_wp2
          go_roundg v
          case measure => exact Nat.lt_of_lt_of_le HG.out.lt HG.out.le
          case rel => exact ⟨u, HU.out.1, HU.out.2.1, Nat.le_of_lt HG.out.lt, Nat.lt_of_le_of_lt (Nat.le_trans HG.out.le HQ.out.le) HQ.out.lt, by rw [HG.out.gcd]; exact HQ.out.gcd, HU.out.2.2⟩
      · have ht : ¬ (2 : Int) < (l2 : Int) := by omega
        by_cases h0 : l2 = 0
        · subst h0
          go_wp2
          go_ret
          refine ⟨_, rfl, ?_, HQ.out.below⟩
          have hz : gk = 0 := by have := HL.out.2.1; simpa using this
          have := HQ.out.gcd
          rw [hz, Nat.gcd_zero_right] at this
          rw [← this]
          exact HQ.out.hp
        · have hz : ((l2 : Int) == 0) = false := by rw [beq_eq_false_iff_ne]; omega
          go_wp2_with fail
          have hq0 : 0 < gk := by
            have h1 := HM.out.2.resolve_left h0
            have := M.pow_pos (l2 - 1); omega
          have HN := Lib.hid hq0
          clear hq0 h0
          refine (divide_all (k := k) HQ.out.hp HQ.out.hq HQ.out.lt (Nat.lt_of_le_of_lt HQ.out.le HQ.out.lt) hk1 (by omega) HN.out).mono ?_
          rintro e w5 ⟨u, v, rfl, hu, hv, hb6⟩
          obtain ⟨Xu, lu, cu, rfl⟩ := hu.shape
          obtain ⟨R, hR⟩ : ∃ R, R = P % gk := ⟨_, rfl⟩
          rw [← hR] at hv
          have hRq : R < gk := by rw [hR]; exact Nat.mod_lt _ HN.out
          have hq2 : gk < M.B ^ 2 := Nat.lt_of_lt_of_le HL.out.2.1 (M.pow_mono (by omega))
          obtain ⟨Xv, lv, cv, rfl, hv1, hvm, hvk, _, _⟩ := hv.open_ (show R < M.B ^ 2 by omega)
          have HU := Lib.hid (And.intro (HL.out.2.below hb6 (Nat.le_refl _)) (And.intro hv1 (HQ.out.below.trans (hb6.mono HQ.out.below.size))))
          have HR := Lib.hid (And.intro hR (And.intro hRq hq2))
          clear hu hv hb6 hv1 hvm hR hRq hq2
          go_wp2_with fail
          refine (word_any c2 HU.out.1 (by omega)).mono ?_
          rintro e w6 ⟨rfl, rfl⟩
          go_wp2_with fail
          refine (word_any cv HU.out.2.1 hvk).mono ?_
          rintro e w6 ⟨rfl, rfl⟩
          go_wp2_with fail
          have hB2 : M.B ^ 2 = M.B * M.B := Nat.pow_two _
          refine (gcd64_any gk R (by have := HR.out.2.2; omega) (by have := HR.out.2.2; have := HR.out.2.1; omega)).mono ?_
          clear hB2
          rintro e w6 ⟨rfl, hd6⟩
          have hGe : Nat.gcd gk R = G := by rw [HR.out.1, Nat.gcd_comm gk, ← Nat.gcd_rec, Nat.gcd_comm]; exact HQ.out.gcd
          have hGB : G < M.B * M.B := by
            rw [← hGe, ← Nat.pow_two]
            exact Nat.lt_of_le_of_lt (Nat.gcd_le_left R HN.out) HR.out.2.2
          rw [hGe]
          have HD := Lib.hid (And.intro hd6 hGB)
          clear hd6 hGe hGB
          go_wp2_with fail
          refine (natural64_any HD.out.2).mono ?_
          rintro e w7 ⟨v7, rfl, hv7, hb7⟩
          have HF := Lib.hid (And.intro hv7 ((HU.out.2.2.trans (HD.out.1.below w.heap.size)).trans (hb7.mono (Nat.le_trans HU.out.2.2.size (HD.out.1.below 0).size))))
          clear hv7 hb7
          go_wp2
          go_ret
          exact ⟨_, rfl, HF.out.1, HF.out.2⟩
end Go.Proofs.YthnbocojjllfaaaGreatDoor
