/- integer.Div. -/
import Derived.Test.YthnbocojjllfaaaGreatDoorArith
import Derived.Test.YthnbocojjllfaaaGreatDoorIntG
namespace Go.Proofs.YthnbocojjllfaaaGreatDoor
open Go Go.RowKit

theorem nDigits_le {k : Nat} : ∀ {a : Nat}, 1 ≤ k → a < 10 ^ k → Lib.nDigits a ≤ k := by
  induction k with
  | zero => intro a h; omega
  | succ k ih =>
    intro a _ h
    by_cases h10 : a < 10
    · rw [Lib.nDigits_small h10]; omega
    · rw [Lib.nDigits_big h10]
      rw [Nat.pow_succ] at h
      have hk : 1 ≤ k := by
        rcases Nat.eq_zero_or_pos k with h0 | h0
        · subst h0; omega
        · exact h0
      have := ih hk (a := a / 10) (by omega)
      omega
theorem nDigits_mono {a b : Nat} (h : a ≤ b) : Lib.nDigits a ≤ Lib.nDigits b :=
  nDigits_le (Lib.nDigits_pos b) (Nat.lt_of_le_of_lt h (Lib.lt_pow_nDigits b))
theorem quo_small {p q : Int} (hq : q ≠ 0) : (p / q).natAbs ≤ p.natAbs ∧ (p % q).natAbs ≤ q.natAbs := by
  refine ⟨Int.natAbs_ediv_le_natAbs p q, ?_⟩
  have := Int.emod_nonneg p hq
  have := Int.emod_lt p hq
  omega
theorem cell_at {w : World} {g j : Nat} {cs : Array Value} {t : TypeId} {v : Value} (h : w.heap[g]? = some (.cells cs t (0, 0))) (hj : cs[j]? = some v) : w.cell? ⟨g, j, none⟩ = some v := by
  simp [World.cell?, h, hj]
theorem itoa_zero {z : Int} (h : Lib.itoa z = [48]) : z = 0 := by
  by_cases h0 : z.natAbs = 0
  · omega
  · exfalso
    by_cases hn : z < 0
    · rw [T.itoa_neg hn] at h
      injection h with h _
      exact absurd h (by decide)
    · rw [T.itoa_nonneg hn] at h
      exact T.decDigits_head (by omega) _ _ h rfl

set_option maxHeartbeats 1600000 in
set_option maxRecDepth 100000 in
theorem div_ok {w : World} (htab : Tab w) (s t : ByteArray) {p q : Int} (hs : s.data.toList = Lib.itoa p) (ht : t.data.toList = Lib.itoa q) (hp : Lib.nDigits p.natAbs ≤ 400) (hq : Lib.nDigits q.natAbs ≤ 400) (hq0 : q ≠ 0) :
    Calls Tryz.prog 38 #[.string s, .string t] w fun e w' => e = .returned (.tuple #[.string ⟨(Lib.itoa (p / q)).toArray⟩, .string ⟨(Lib.itoa (p % q)).toArray⟩, .int .i64 0]) ∧ Below w.heap.size w w' := by
  have hsm := quo_small (p := p) hq0
  have hd1 : Lib.nDigits (p / q).natAbs ≤ 400 := Nat.le_trans (nDigits_mono hsm.1) hp
  have hd2 : Lib.nDigits (p % q).natAbs ≤ 400 := Nat.le_trans (nDigits_mono hsm.2) hq
  have hg1 : give (p / q) = .tuple #[.string ⟨(Lib.itoa (p / q)).toArray⟩, .int .i64 0] := if_pos hd1
  have hg2 : give (p % q) = .tuple #[.string ⟨(Lib.itoa (p % q)).toArray⟩, .int .i64 0] := if_pos hd2
  have hne : (t.toList == [48]) = false := by
    rw [Lib.toList_data, ht]
    rw [beq_eq_false_iff_ne]
    intro e
    exact hq0 (itoa_zero e)
  obtain ⟨U, hU⟩ : ∃ U, U = p / q := ⟨_, rfl⟩
  obtain ⟨V, hV⟩ : ∃ V, V = p % q := ⟨_, rfl⟩
  have H := Lib.hid (And.intro hs (And.intro ht (And.intro htab (And.intro (lt_ten _ hp) (And.intro (lt_ten _ hq) (And.intro (lt_ten _ hd1) (lt_ten _ hd2)))))))
  have HG := Lib.hid (And.intro hg1 (And.intro hg2 (And.intro hU hV)))
  have v1 := vld_itoa hp
  have v2 := vld_itoa hq
  rw [← hs] at v1
  rw [← ht] at v2
  have HV := Lib.hid (And.intro v1 v2)
  obtain ⟨ru, hru⟩ : ∃ ru, ru = wrd U := ⟨_, rfl⟩
  obtain ⟨rv, hrv⟩ : ∃ rv, rv = wrd V := ⟨_, rfl⟩
  have HB := Lib.hid (And.intro hru hrv)
  clear hsm hd1 hd2 hg1 hg2 htab hs ht v1 v2 hU hV hru hrv
  go_enter Tryz.func38, Tryz.ntmps38
  go_wp2_with fail
  refine (valid_any s).mono ?_
  rw [HV.out.1]
  rintro e w1 ⟨rfl, rfl⟩
  go_wp2_with fail
  refine (valid_any t).mono ?_
  rw [HV.out.2]
  rintro e w1 ⟨rfl, rfl⟩
  go_wp2_with fail
  refine (read_any s H.out.1 (by omega)).mono ?_
  rintro e w1 ⟨a, rfl, ha, hb1⟩
  have H1 := Lib.hid (And.intro ha hb1)
  clear ha hb1
  go_wp2_with fail
  refine (read_any t H.out.2.1 (by omega)).mono ?_
  rintro e w2 ⟨b, rfl, hb, hb2⟩
  have H2 := Lib.hid (And.intro (H1.out.1.below hb2 (Nat.le_refl _)) (And.intro hb (H1.out.2.trans (hb2.mono H1.out.2.size))))
  clear hb hb2
  go_wp2_with fail
  refine (divide_int H2.out.1 H2.out.2.1 hq0 H.out.2.2.2.1 H.out.2.2.2.2.1 (by omega) (by omega)).mono ?_
  rw [← HG.out.2.2.1, ← HG.out.2.2.2]
  rintro e w3 ⟨u, v, rfl, hu, hv, hb3⟩
  obtain ⟨A1, l1, d1, rfl, hu1⟩ := hu.shape_s HB.out.1
  obtain ⟨A2, l2, d2, rfl, hv1⟩ := hv.shape_s HB.out.2
  have H3 := Lib.hid (And.intro hu (And.intro hv (H2.out.2.2.trans (hb3.mono H2.out.2.2.size))))
  clear hu hv hb3 hu1 hv1
  have hc0 : ((w3.alloc (.cells #[.int .i64 ru, .slice A1 l1 d1] 81)).alloc (.cells #[.int .i64 rv, .slice A2 l2 d2] 81)).cell? ⟨w3.heap.size + 1, 0, none⟩ = some (.int .i64 rv) := by
    have h : ((w3.alloc (.cells #[.int .i64 ru, .slice A1 l1 d1] 81)).alloc (.cells #[.int .i64 rv, .slice A2 l2 d2] 81)).heap[w3.heap.size + 1]? = some (.cells #[.int .i64 rv, .slice A2 l2 d2] 81 (0, 0)) := by
      have := heap_alloc_new (w3.alloc (.cells #[.int .i64 ru, .slice A1 l1 d1] 81)) (.cells #[.int .i64 rv, .slice A2 l2 d2] 81)
      simpa using this
    exact cell_at h rfl
  have hc1 : ((w3.alloc (.cells #[.int .i64 ru, .slice A1 l1 d1] 81)).alloc (.cells #[.int .i64 rv, .slice A2 l2 d2] 81)).cell? ⟨w3.heap.size + 1, 1, none⟩ = some (.slice A2 l2 d2) := by
    have h : ((w3.alloc (.cells #[.int .i64 ru, .slice A1 l1 d1] 81)).alloc (.cells #[.int .i64 rv, .slice A2 l2 d2] 81)).heap[w3.heap.size + 1]? = some (.cells #[.int .i64 rv, .slice A2 l2 d2] 81 (0, 0)) := by
      have := heap_alloc_new (w3.alloc (.cells #[.int .i64 ru, .slice A1 l1 d1] 81)) (.cells #[.int .i64 rv, .slice A2 l2 d2] 81)
      simpa using this
    exact cell_at h rfl
  have hw4 : Below w3.heap.size w3 ((w3.alloc (.cells #[.int .i64 ru, .slice A1 l1 d1] 81)).alloc (.cells #[.int .i64 rv, .slice A2 l2 d2] 81)) := ((Below.refl _ _).alloc (Nat.le_refl _) _).alloc (by simp) _
  have hsz : w3.heap.size + 1 < ((w3.alloc (.cells #[.int .i64 ru, .slice A1 l1 d1] 81)).alloc (.cells #[.int .i64 rv, .slice A2 l2 d2] 81)).heap.size := by simp
  have HW := Lib.hid (And.intro hc0 (And.intro hc1 (And.intro hw4 hsz)))
  clear hc0 hc1 hw4 hsz
  go_wp2_with fail
  generalize (w3.alloc (.cells #[.int .i64 ru, .slice A1 l1 d1] 81)).alloc (.cells #[.int .i64 rv, .slice A2 l2 d2] 81) = W4 at *
  refine (write_any (z := U) (k := 42) (H.out.2.2.1.below (H3.out.2.2.trans (HW.out.2.2.1.mono H3.out.2.2.size))) (H3.out.1.below HW.out.2.2.1 (Nat.le_refl _)) (by rw [HG.out.2.2.1]; exact H.out.2.2.2.2.2.1) (by omega)).mono ?_
  rw [HG.out.2.2.1, HG.out.1]
  rintro e w5 ⟨rfl, hb5⟩
  have hc0 := (hb5.cell (p := ⟨w3.heap.size + 1, 0, none⟩) HW.out.2.2.2).trans HW.out.1
  have hc1 := (hb5.cell (p := ⟨w3.heap.size + 1, 1, none⟩) HW.out.2.2.2).trans HW.out.2.1
  have H5 := Lib.hid (And.intro ((H3.out.2.1.below HW.out.2.2.1 (Nat.le_refl _)).below hb5 (Nat.le_refl _)) ((H3.out.2.2.trans (HW.out.2.2.1.mono H3.out.2.2.size)).trans (hb5.mono (Nat.le_trans H3.out.2.2.size HW.out.2.2.1.size))))
  clear hb5
  go_wp2_with fail
  refine (write_any (z := V) (k := 42) (H.out.2.2.1.below H5.out.2) H5.out.1 (by rw [HG.out.2.2.2]; exact H.out.2.2.2.2.2.2) (by omega)).mono ?_
  rw [HG.out.2.2.2, HG.out.2.1]
  rintro e w6 ⟨rfl, hb6⟩
  have H6 := Lib.hid (H5.out.2.trans (hb6.mono H5.out.2.size))
  clear hb6 hc0 hc1
  go_wp2
  go_ret3
  exact ⟨rfl, H6.out⟩

set_option maxHeartbeats 400000 in
set_option maxRecDepth 100000 in
theorem div_zero {w : World} (s t : ByteArray) {p : Int} (hs : s.data.toList = Lib.itoa p) (ht : t.data.toList = [48]) (hp : Lib.nDigits p.natAbs ≤ 400) :
    Calls Tryz.prog 38 #[.string s, .string t] w fun e w' => e = .returned (.tuple #[.string ⟨#[]⟩, .string ⟨#[]⟩, .int .i64 4]) ∧ Below w.heap.size w w' := by
  have h48 : (t.toList == [48]) = true := by rw [Lib.toList_data, ht]; rfl
  have v1 := vld_itoa hp
  rw [← hs] at v1
  have v2 : vld t.data.toList = true := by rw [ht]; decide +kernel
  have HV := Lib.hid (And.intro v1 v2)
  clear v1 v2 hs ht
  go_enter Tryz.func38, Tryz.ntmps38
  go_wp2_with fail
  refine (valid_any s).mono ?_
  rw [HV.out.1]
  rintro e w1 ⟨rfl, rfl⟩
  go_wp2_with fail
  refine (valid_any t).mono ?_
  rw [HV.out.2]
  rintro e w1 ⟨rfl, rfl⟩
  go_wp2
  go_ret3
  exact ⟨rfl, Below.refl _ _⟩
end Go.Proofs.YthnbocojjllfaaaGreatDoor
