/- The source of numbers, again: it changes its own block alone. -/
import Derived.Test.YtjghgbfagjhdgaaGreatDoorNum
namespace Go.Proofs.YtjghgbfagjhdgaaGreatDoor
open Go Go.RowKit

/-- Of the blocks that were there only g has changed. -/
def Src1 (g : Nat) (w w' : World) : Prop := Below g w w' ∧ ∀ k, k < w.heap.size → k ≠ g → w'.heap[k]? = w.heap[k]?
section
variable {g : Nat} {w w' w'' : World}
theorem Src1.refl (g : Nat) (w : World) : Src1 g w w := ⟨Below.refl _ _, fun _ _ _ => rfl⟩
theorem Src1.trans (h : Src1 g w w') (h' : Src1 g w' w'') : Src1 g w w'' := ⟨h.1.trans h'.1, fun k hk hne => (h'.2 k (Nat.lt_of_lt_of_le hk h.1.size) hne).trans (h.2 k hk hne)⟩
theorem Src1.below (h : Below w.heap.size w w') (hg : g ≤ w.heap.size) : Src1 g w w' := ⟨h.mono hg, fun k hk _ => h.block k hk⟩
theorem Src1.alloc (h : Src1 g w w') (hg : g ≤ w'.heap.size) (o : Obj) : Src1 g w (w'.alloc o) := h.trans (Src1.below ((Below.refl _ _).alloc (Nat.le_refl _) o) hg)
theorem Src1.drawn (h : Drawn w w') : Src1 g w w' := ⟨h.below g, fun k _ _ => (h.below (k + 1)).block k (Nat.lt_succ_self k)⟩
theorem Src1.set (w : World) (j : Nat) (v : Value) : Src1 g w (w.setCell ⟨g, j, none⟩ v) := ⟨(Below.refl g w).setCell (p := ⟨g, j, none⟩) (Nat.le_refl _) v, fun _ _ hne => Below.heap_setCell _ _ _ _ hne⟩
theorem Src1.cell (h : Src1 g w w') {b i : Nat} (hb : b < w.heap.size) (hne : b ≠ g) : w'.cell? ⟨b, i, none⟩ = w.cell? ⟨b, i, none⟩ := by
  unfold World.cell?
  rw [h.2 b hb hne]
end
set_option maxHeartbeats 800000 in
set_option maxRecDepth 100000 in
theorem n_src {w : World} {g : Nat} (m : Int) (h : SrcIn w g) (hm : 1 ≤ m) (hm' : m ≤ 1000) :
    Calls Tryz.prog 11 #[.pointer (some ⟨g, 0, none⟩), .int .i64 m] w fun e w' => ∃ r : Int, e = .returned (.int .i64 r) ∧ (0 ≤ r ∧ r < m) ∧ SrcIn w' g ∧ Src1 g w w' := by
  have hg := h.lt
  have HS := Lib.hid h
  obtain ⟨A, n, c, a, hh, h1, h2, h3⟩ := h
  have c0 : w.cell? ⟨g, 0, none⟩ = some (.slice A n c) := cell_at hh rfl
  have c1 : w.cell? ⟨g, 1, none⟩ = some (.int .i64 (a : Int)) := cell_at hh rfl
  have f1 : w.frozen? ⟨g, 1, none⟩ = false := by simp [World.frozen?, hh]
  have H := Lib.hid (And.intro hh h3)
  clear hh h3
  by_cases hlt : a < n
  · obtain ⟨b, off, rfl, hbl, hc⟩ := H.out.2 (by omega)
    obtain ⟨z, hz, hz1, hz2⟩ := hc a hlt
    have hge : decide ((n : Int) ≤ (a : Int)) = false := decide_eq_false (by omega)
    have HC := Lib.hid (And.intro hc (And.intro hz1 hz2))
    clear hc hz1 hz2
    go_enter Tryz.func11, Tryz.ntmps11
    go_wp2_with fail
    go_quiet (fail)
    go_wp2_with fail
    obtain ⟨w2, hw2⟩ : ∃ w2, w2 = (w.drewN nq).setCell ⟨g, 1, none⟩ (.int .i64 ((a : Int) + 1)) := ⟨_, rfl⟩
    rw [← hw2]
    have hb1 : Src1 g w w2 := by
      rw [hw2]
      exact (Src1.drawn ((Drawn.refl w).drewN nq)).trans (Src1.set _ _ _)
    have hb2 := hb1.1
    have hh2 : w2.heap[g]? = some (.cells #[.slice (some ⟨b, off, none⟩) n c, .int .i64 ((a + 1 : Nat) : Int)] 71 (0, 0)) := by
      rw [hw2]
      exact Lib.heap_setCell_same (i := 1) (show (w.drewN nq).heap[g]? = _ from H.out.1) _
    have d0 : w2.cell? ⟨g, 0, none⟩ = some (.slice (some ⟨b, off, none⟩) n c) := cell_at hh2 rfl
    have d1 : w2.cell? ⟨g, 1, none⟩ = some (.int .i64 ((a : Int) + 1)) := cell_at hh2 rfl
    have dz : w2.cell? ⟨b, off + a, none⟩ = some (.int .i64 z) := (hb2.cell hbl).trans hz
    have hs2 : SrcIn w2 g := by
      refine ⟨_, n, c, a + 1, hh2, hlt, h2, fun _ => ⟨b, off, rfl, hbl, fun i hi => ?_⟩⟩
      obtain ⟨z, hz, hr⟩ := HC.out.1 i hi
      exact ⟨z, (hb2.cell hbl).trans hz, hr⟩
    have H2 := Lib.hid (And.intro hs2 hb1)
    clear hs2 hb1 hb2 hh2 hw2 c0 c1 f1 hz
    have hr := modv_range z m hm
    generalize hv : modv z m = v at *
    have HV := Lib.hid hv
    clear hv
    go_wp2_with fail
    go_quiet ((go_at_call 42; exact Calls.quiet_left (mod_any z m hm hm' HC.out.2.1 HC.out.2.2)))
    go_wp2
    go_ret
    exact ⟨_, rfl, by rw [HV.out]; exact hr, H2.out.1.below ((Drawn.refl w2).drewN nq |>.below _), H2.out.2.trans (Src1.drawn ((Drawn.refl w2).drewN nq))⟩
  · have hge : decide ((n : Int) ≤ (a : Int)) = true := decide_eq_true (by omega)
    go_enter Tryz.func11, Tryz.ntmps11
    go_wp2_with fail
    go_quiet (fail)
    go_wp2_with fail
    go_ret
    exact ⟨0, rfl, ⟨by omega, by omega⟩, HS.out.below ((Drawn.refl w).drewN nq |>.below _), Src1.drawn ((Drawn.refl w).drewN nq)⟩
end Go.Proofs.YtjghgbfagjhdgaaGreatDoor
