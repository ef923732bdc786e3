/- integer.Div. -/
import Derived.Test.YtafknlnlejopeaaGreatDoorDivC
namespace Go.Proofs.YtafknlnlejopeaaGreatDoor
open Go Go.RowKit

theorem nDigits_le {k : Nat} : ∀ {a : Nat}, 1 ≤ k → a < 10 ^ k → Lib.nDigits a ≤ k := by
  induction k with
  | zero => intro a h; omega
  | succ k ih =>
    intro a _ h
    by_cases h10 : a < 10
    · rw [Lib.nDigits_small h10]; omega
    · rw [Lib.nDigits_big h10]
      rw [Nat.pow_succ] at h
      have hk : 1 ≤ k := by
        rcases Nat.eq_zero_or_pos k with h0 | h0
        · subst h0; omega
        · exact h0
      have := ih hk (a := a / 10) (by omega)
      omega
theorem nDigits_mono {a b : Nat} (h : a ≤ b) : Lib.nDigits a ≤ Lib.nDigits b :=
  nDigits_le (Lib.nDigits_pos b) (Nat.lt_of_le_of_lt h (Lib.lt_pow_nDigits b))
theorem quo_small {p q : Int} (hq : q ≠ 0) : (p / q).natAbs ≤ p.natAbs ∧ (p % q).natAbs ≤ q.natAbs := by
  have hv := div_value (p := p) hq
  have hy : 0 < q.natAbs := by omega
  have h1 := Nat.div_le_self p.natAbs q.natAbs
  have h2 := Nat.mod_lt p.natAbs hy
  have h3 := Nat.div_add_mod p.natAbs q.natAbs
  have h4 := Nat.le_mul_of_pos_left (p.natAbs / q.natAbs) hy
  generalize p.natAbs / q.natAbs = U at *
  generalize p.natAbs % q.natAbs = V at *
  by_cases hp : p < 0
  · by_cases h0 : V = 0
    · obtain ⟨e1, e2⟩ := hv.2.1 hp h0
      rw [e1, e2]
      exact ⟨by split <;> omega, by omega⟩
    · obtain ⟨e1, e2⟩ := hv.2.2 hp (by omega)
      rw [e1, e2]
      exact ⟨by split <;> omega, by omega⟩
  · obtain ⟨e1, e2⟩ := hv.1 hp
    rw [e1, e2]
    exact ⟨by split <;> omega, by omega⟩
theorem cell_at {w : World} {g j : Nat} {cs : Array Value} {t : TypeId} {v : Value} (h : w.heap[g]? = some (.cells cs t (0, 0))) (hj : cs[j]? = some v) : w.cell? ⟨g, j, none⟩ = some v := by
  simp [World.cell?, h, hj]
theorem itoa_zero {z : Int} (h : Lib.itoa z = [48]) : z = 0 := by
  by_cases h0 : z.natAbs = 0
  · omega
  · exfalso
    by_cases hn : z < 0
    · rw [T.itoa_neg hn] at h
      injection h with h _
      exact absurd h (by decide)
    · rw [T.itoa_nonneg hn] at h
      exact T.decDigits_head (by omega) _ _ h rfl

set_option maxHeartbeats 1600000 in
set_option maxRecDepth 100000 in
theorem div_ok {w : World} (s t : ByteArray) {p q : Int} (hs : s.data.toList = Lib.itoa p) (ht : t.data.toList = Lib.itoa q) (hp : Lib.nDigits p.natAbs ≤ 400) (hq : Lib.nDigits q.natAbs ≤ 400) (hq0 : q ≠ 0)
    (hD : ∀ (w : World) (a b : Value), IsNat w a p.natAbs → IsNat w b q.natAbs → Calls Tryz.prog 81 #[a, b] w (DivPost w p.natAbs q.natAbs)) :
    Calls Tryz.prog 30 #[.string s, .string t] w fun e w' => e = .returned (.tuple #[.string ⟨(Lib.itoa (p / q)).toArray⟩, .string ⟨(Lib.itoa (p % q)).toArray⟩, .int .i64 0]) ∧ Below w.heap.size w w' := by
  have hsm := quo_small (p := p) hq0
  have hd1 : Lib.nDigits (p / q).natAbs ≤ 400 := Nat.le_trans (nDigits_mono hsm.1) hp
  have hd2 : Lib.nDigits (p % q).natAbs ≤ 400 := Nat.le_trans (nDigits_mono hsm.2) hq
  have hg1 : give (p / q) = .tuple #[.string ⟨(Lib.itoa (p / q)).toArray⟩, .int .i64 0] := if_pos hd1
  have hg2 : give (p % q) = .tuple #[.string ⟨(Lib.itoa (p % q)).toArray⟩, .int .i64 0] := if_pos hd2
  have hne : (t.toList == [48]) = false := by
    rw [Lib.toList_data, ht]
    rw [beq_eq_false_iff_ne]
    intro e
    exact hq0 (itoa_zero e)
  obtain ⟨U, hU⟩ : ∃ U, U = p / q := ⟨_, rfl⟩
  obtain ⟨V, hV⟩ : ∃ V, V = p % q := ⟨_, rfl⟩
  have H := Lib.hid (And.intro hs (And.intro ht (And.intro hD (And.intro (lt_ten _ hp) (And.intro (lt_ten _ hq) (And.intro (lt_ten _ hd1) (lt_ten _ hd2)))))))
  have HG := Lib.hid (And.intro hg1 (And.intro hg2 (And.intro hU hV)))
  have v1 := vld_itoa hp
  have v2 := vld_itoa hq
  rw [← hs] at v1
  rw [← ht] at v2
  have HV := Lib.hid (And.intro v1 v2)
  obtain ⟨ru, hru⟩ : ∃ ru, ru = decide (U < 0) := ⟨_, rfl⟩
  obtain ⟨rv, hrv⟩ : ∃ rv, rv = decide (V < 0) := ⟨_, rfl⟩
  have HB := Lib.hid (And.intro hru hrv)
  clear hsm hd1 hd2 hg1 hg2 hD hs ht v1 v2 hU hV hru hrv
  go_enter Tryz.func30, Tryz.ntmps30
  go_wp2_with fail
  refine (valid_any s).mono ?_
  rw [HV.out.1]
  rintro e w1 ⟨rfl, rfl⟩
  go_wp2_with fail
  refine (valid_any t).mono ?_
  rw [HV.out.2]
  rintro e w1 ⟨rfl, rfl⟩
  go_wp2_with fail
  refine (read_any s H.out.1 (by omega)).mono ?_
  rintro e w1 ⟨a, rfl, ha, hb1⟩
  have H1 := Lib.hid (And.intro ha hb1)
  clear ha hb1
  go_wp2_with fail
  refine (read_any t H.out.2.1 (by omega)).mono ?_
  rintro e w2 ⟨b, rfl, hb, hb2⟩
  have H2 := Lib.hid (And.intro (H1.out.1.below hb2 (Nat.le_refl _)) (And.intro hb (H1.out.2.trans (hb2.mono H1.out.2.size))))
  clear hb hb2
  go_wp2_with fail
  refine (divide_int H2.out.1 H2.out.2.1 hq0 H.out.2.2.2.1 H.out.2.2.2.2.1 (by omega) H.out.2.2.1).mono ?_
  rw [← HG.out.2.2.1, ← HG.out.2.2.2]
  rintro e w3 ⟨u, v, rfl, hu, hv, hb3⟩
  obtain ⟨A1, l1, d1, rfl, hu1⟩ := hu.shape_b HB.out.1
  obtain ⟨A2, l2, d2, rfl, hv1⟩ := hv.shape_b HB.out.2
  have H3 := Lib.hid (And.intro hu (And.intro hv (H2.out.2.2.trans (hb3.mono H2.out.2.2.size))))
  clear hu hv hb3 hu1 hv1
  have hc0 : ((w3.alloc (.cells #[.bool ru, .slice A1 l1 d1] 58)).alloc (.cells #[.bool rv, .slice A2 l2 d2] 58)).cell? ⟨w3.heap.size + 1, 0, none⟩ = some (.bool rv) := by
    have h : ((w3.alloc (.cells #[.bool ru, .slice A1 l1 d1] 58)).alloc (.cells #[.bool rv, .slice A2 l2 d2] 58)).heap[w3.heap.size + 1]? = some (.cells #[.bool rv, .slice A2 l2 d2] 58 (0, 0)) := by
      have := heap_alloc_new (w3.alloc (.cells #[.bool ru, .slice A1 l1 d1] 58)) (.cells #[.bool rv, .slice A2 l2 d2] 58)
      simpa using this
    exact cell_at h rfl
  have hc1 : ((w3.alloc (.cells #[.bool ru, .slice A1 l1 d1] 58)).alloc (.cells #[.bool rv, .slice A2 l2 d2] 58)).cell? ⟨w3.heap.size + 1, 1, none⟩ = some (.slice A2 l2 d2) := by
    have h : ((w3.alloc (.cells #[.bool ru, .slice A1 l1 d1] 58)).alloc (.cells #[.bool rv, .slice A2 l2 d2] 58)).heap[w3.heap.size + 1]? = some (.cells #[.bool rv, .slice A2 l2 d2] 58 (0, 0)) := by
      have := heap_alloc_new (w3.alloc (.cells #[.bool ru, .slice A1 l1 d1] 58)) (.cells #[.bool rv, .slice A2 l2 d2] 58)
      simpa using this
    exact cell_at h rfl
  have hw4 : Below w3.heap.size w3 ((w3.alloc (.cells #[.bool ru, .slice A1 l1 d1] 58)).alloc (.cells #[.bool rv, .slice A2 l2 d2] 58)) := ((Below.refl _ _).alloc (Nat.le_refl _) _).alloc (by simp) _
  have hsz : w3.heap.size + 1 < ((w3.alloc (.cells #[.bool ru, .slice A1 l1 d1] 58)).alloc (.cells #[.bool rv, .slice A2 l2 d2] 58)).heap.size := by simp
  have HW := Lib.hid (And.intro hc0 (And.intro hc1 (And.intro hw4 hsz)))
  clear hc0 hc1 hw4 hsz
  go_wp2_with fail
  generalize (w3.alloc (.cells #[.bool ru, .slice A1 l1 d1] 58)).alloc (.cells #[.bool rv, .slice A2 l2 d2] 58) = W4 at *
  refine (write_any (z := U) (k := 42) (H3.out.1.below HW.out.2.2.1 (Nat.le_refl _)) (by rw [HG.out.2.2.1]; exact H.out.2.2.2.2.2.1) (by omega)).mono ?_
  rw [HG.out.2.2.1, HG.out.1]
  rintro e w5 ⟨rfl, hb5⟩
  have hc0 := (hb5.cell (p := ⟨w3.heap.size + 1, 0, none⟩) HW.out.2.2.2).trans HW.out.1
  have hc1 := (hb5.cell (p := ⟨w3.heap.size + 1, 1, none⟩) HW.out.2.2.2).trans HW.out.2.1
  have H5 := Lib.hid (And.intro ((H3.out.2.1.below HW.out.2.2.1 (Nat.le_refl _)).below hb5 (Nat.le_refl _)) ((H3.out.2.2.trans (HW.out.2.2.1.mono H3.out.2.2.size)).trans (hb5.mono (Nat.le_trans H3.out.2.2.size HW.out.2.2.1.size))))
  clear hb5
  go_wp2_with fail
  refine (write_any (z := V) (k := 42) H5.out.1 (by rw [HG.out.2.2.2]; exact H.out.2.2.2.2.2.2) (by omega)).mono ?_
  rw [HG.out.2.2.2, HG.out.2.1]
  rintro e w6 ⟨rfl, hb6⟩
  have H6 := Lib.hid (H5.out.2.trans (hb6.mono H5.out.2.size))
  clear hb6 hc0 hc1
  go_wp2
  go_ret3
  exact ⟨rfl, H6.out⟩

set_option maxHeartbeats 400000 in
set_option maxRecDepth 100000 in
theorem div_zero {w : World} (s t : ByteArray) {p : Int} (hs : s.data.toList = Lib.itoa p) (ht : t.data.toList = [48]) (hp : Lib.nDigits p.natAbs ≤ 400) :
    Calls Tryz.prog 30 #[.string s, .string t] w fun e w' => e = .returned (.tuple #[.string ⟨#[]⟩, .string ⟨#[]⟩, .int .i64 4]) ∧ Below w.heap.size w w' := by
  have h48 : (t.toList == [48]) = true := by rw [Lib.toList_data, ht]; rfl
  have v1 := vld_itoa hp
  rw [← hs] at v1
  have v2 : vld t.data.toList = true := by rw [ht]; decide +kernel
  have HV := Lib.hid (And.intro v1 v2)
  clear v1 v2 hs ht
  go_enter Tryz.func30, Tryz.ntmps30
  go_wp2_with fail
  refine (valid_any s).mono ?_
  rw [HV.out.1]
  rintro e w1 ⟨rfl, rfl⟩
  go_wp2_with fail
  refine (valid_any t).mono ?_
  rw [HV.out.2]
  rintro e w1 ⟨rfl, rfl⟩
  go_wp2
  go_ret3
  exact ⟨rfl, Below.refl _ _⟩
end Go.Proofs.YtafknlnlejopeaaGreatDoor
