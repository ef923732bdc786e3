/- The source of numbers: Mod, N, Big, New. -/
import Derived.Test.YtafknlnlejopeaaGreatDoorSane
namespace Go.Proofs.YtafknlnlejopeaaGreatDoor
open Go Go.RowKit

def modv (x n : Int) : Int := (x.tmod n + n).tmod n
theorem modv_range (x n : Int) (hn : 1 ≤ n) : 0 ≤ modv x n ∧ modv x n < n := by
  have h1 := Int.tmod_lt_of_pos x (show 0 < n by omega)
  have h2 : -n < x.tmod n := by
    rcases Int.le_total 0 x with h | h
    · have := Int.tmod_nonneg n h; omega
    · have h3 := Int.tmod_lt_of_pos (-x) (show 0 < n by omega)
      rw [Int.neg_tmod] at h3; omega
  unfold modv
  rw [Int.tmod_eq_emod_of_nonneg (by omega)]
  exact ⟨Int.emod_nonneg _ (by omega), Int.emod_lt_of_pos _ (by omega)⟩
set_option maxHeartbeats 400000 in
theorem mod_any {w : World} (x n : Int) (hn : 1 ≤ n) (hn' : n ≤ 1000) (_ : -9223372036854775808 ≤ x) (_ : x ≤ 9223372036854775807) :
    Calls Tryz.prog 62 #[.int .i64 x, .int .i64 n] w fun e w' => e = .returned (.int .i64 (modv x n)) ∧ w = w' := by
  have h1 := Int.tmod_lt_of_pos x (show 0 < n by omega)
  have h2 : -n < x.tmod n := by
    rcases Int.le_total 0 x with h | h
    · have := Int.tmod_nonneg n h; omega
    · have h3 := Int.tmod_lt_of_pos (-x) (show 0 < n by omega)
      rw [Int.neg_tmod] at h3; omega
  go_enter Tryz.func62, Tryz.ntmps62
  go_wp2
  go_ret
  exact ⟨by unfold modv; rw [Int.tmod_eq_emod_of_nonneg (a := x.tmod n + n) (by omega)]; rfl, rfl⟩

/-- Block g is a source of numbers. -/
def SrcIn (w : World) (g : Nat) : Prop :=
  ∃ A n c at_, w.heap[g]? = some (.cells #[.slice A n c, .int .i64 ((at_ : Nat) : Int)] 49 (0, 0)) ∧ at_ ≤ n ∧ n ≤ 600 ∧
    (0 < n → ∃ b off, A = some ⟨b, off, none⟩ ∧ b < g ∧ ∀ i, i < n → ∃ z : Int, w.cell? ⟨b, off + i, none⟩ = some (.int .i64 z) ∧ -9223372036854775808 ≤ z ∧ z ≤ 9223372036854775807)
theorem SrcIn.lt {w : World} {g : Nat} (h : SrcIn w g) : g < w.heap.size := by obtain ⟨A, n, c, a, h, _⟩ := h; exact lt_of_block h
theorem SrcIn.below {w w' : World} {g : Nat} (h : SrcIn w g) (hb : Below w.heap.size w w') : SrcIn w' g := by
  obtain ⟨A, n, c, a, hh, h1, h2, h3⟩ := h
  refine ⟨A, n, c, a, (hb.block g (lt_of_block hh)).trans hh, h1, h2, fun h0 => ?_⟩
  obtain ⟨b, off, e, hbl, hc⟩ := h3 h0
  refine ⟨b, off, e, hbl, fun i hi => ?_⟩
  obtain ⟨z, hz, hr⟩ := hc i hi
  exact ⟨z, (hb.cell (Nat.lt_trans hbl (lt_of_block hh))).trans hz, hr⟩

set_option maxHeartbeats 800000 in
set_option maxRecDepth 100000 in
theorem n_any {w : World} {g : Nat} (m : Int) (h : SrcIn w g) (hm : 1 ≤ m) (hm' : m ≤ 1000) :
    Calls Tryz.prog 34 #[.pointer (some ⟨g, 0, none⟩), .int .i64 m] w fun e w' => ∃ r : Int, e = .returned (.int .i64 r) ∧ (0 ≤ r ∧ r < m) ∧ SrcIn w' g ∧ Below g w w' := by
  have hg := h.lt
  have HS := Lib.hid h
  obtain ⟨A, n, c, a, hh, h1, h2, h3⟩ := h
  have c0 : w.cell? ⟨g, 0, none⟩ = some (.slice A n c) := cell_at hh rfl
  have c1 : w.cell? ⟨g, 1, none⟩ = some (.int .i64 (a : Int)) := cell_at hh rfl
  have f1 : w.frozen? ⟨g, 1, none⟩ = false := by simp [World.frozen?, hh]
  have H := Lib.hid (And.intro hh h3)
  clear hh h3
  by_cases hlt : a < n
  · obtain ⟨b, off, rfl, hbl, hc⟩ := H.out.2 (by omega)
    obtain ⟨z, hz, hz1, hz2⟩ := hc a hlt
    have hge : decide ((n : Int) ≤ (a : Int)) = false := decide_eq_false (by omega)
    have HC := Lib.hid (And.intro hc (And.intro hz1 hz2))
    clear hc hz1 hz2
    go_enter Tryz.func34, Tryz.ntmps34
    go_wp2_with fail
    go_quiet (fail)
    go_wp2_with fail
    obtain ⟨w2, hw2⟩ : ∃ w2, w2 = (w.drewN nq).setCell ⟨g, 1, none⟩ (.int .i64 ((a : Int) + 1)) := ⟨_, rfl⟩
    rw [← hw2]
    have hb2 : Below g w w2 := by
      rw [hw2]
      exact Below.setCell ((Drawn.refl w).drewN nq |>.below g) (Nat.le_refl _) _
    have hh2 : w2.heap[g]? = some (.cells #[.slice (some ⟨b, off, none⟩) n c, .int .i64 ((a + 1 : Nat) : Int)] 49 (0, 0)) := by
      rw [hw2]
      exact Lib.heap_setCell_same (i := 1) (show (w.drewN nq).heap[g]? = _ from H.out.1) _
    have d0 : w2.cell? ⟨g, 0, none⟩ = some (.slice (some ⟨b, off, none⟩) n c) := cell_at hh2 rfl
    have d1 : w2.cell? ⟨g, 1, none⟩ = some (.int .i64 ((a : Int) + 1)) := cell_at hh2 rfl
    have dz : w2.cell? ⟨b, off + a, none⟩ = some (.int .i64 z) := (hb2.cell hbl).trans hz
    have hs2 : SrcIn w2 g := by
      refine ⟨_, n, c, a + 1, hh2, hlt, h2, fun _ => ⟨b, off, rfl, hbl, fun i hi => ?_⟩⟩
      obtain ⟨z, hz, hr⟩ := HC.out.1 i hi
      exact ⟨z, (hb2.cell hbl).trans hz, hr⟩
    have H2 := Lib.hid (And.intro hs2 hb2)
    clear hs2 hb2 hh2 hw2 c0 c1 f1 hz
    have hr := modv_range z m hm
    generalize hv : modv z m = v at *
    have HV := Lib.hid hv
    clear hv
    go_wp2_with fail
    go_quiet ((go_at_call 62; exact Calls.quiet_left (mod_any z m hm hm' HC.out.2.1 HC.out.2.2)))
    go_wp2
    go_ret
    exact ⟨_, rfl, by rw [HV.out]; exact hr, H2.out.1.below ((Drawn.refl w2).drewN nq |>.below _), H2.out.2.trans (((Drawn.refl w2).drewN nq |>.below g))⟩
  · have hge : decide ((n : Int) ≤ (a : Int)) = true := decide_eq_true (by omega)
    go_enter Tryz.func34, Tryz.ntmps34
    go_wp2_with fail
    go_quiet (fail)
    go_wp2_with fail
    go_ret
    exact ⟨0, rfl, ⟨by omega, by omega⟩, HS.out.below ((Drawn.refl w).drewN nq |>.below _), (Drawn.refl w).drewN nq |>.below g⟩
end Go.Proofs.YtafknlnlejopeaaGreatDoor
