/- Two results in their places, written in whatever order: what stays. -/
import Derived.Test.YthnbocojjllfaaaGreatDoorIntF
import Derived.Test.YthnbocojjllfaaaGreatDoorRel
namespace Go.Proofs.YthnbocojjllfaaaGreatDoor
open Go Go.RowKit

/-- The place g holds the integer z. -/
def InRes (w : World) (g : Nat) (z : Int) : Prop := ∃ s A l c, w.cell? ⟨g, 0, none⟩ = some (.int .i64 s) ∧ w.cell? ⟨g, 1, none⟩ = some (.slice A l c) ∧ s = wrd z ∧ Size w A l c z
/-- A step: memory is made, or one of the two places gets its integer. -/
def Two2 (g h : Nat) (y z : Int) (w w' : World) : Prop :=
  Below w.heap.size w w' ∨ (∃ s A l c, w' = setInt w g s A l c ∧ s = wrd y ∧ Size w A l c y) ∨ (∃ s A l c, w' = setInt w h s A l c ∧ s = wrd z ∧ Size w A l c z)
section
variable {g h : Nat} {y z : Int} {w w' : World}
theorem Two2.int (ht : Two2 g h y z w w') (hg : Res g w) (hh : Res h w) {v : Value} {x : Int} (hv : IsInt w v x) : IsInt w' v x := by
  rcases ht with hb | ⟨s, A, l, c, rfl, _, _⟩ | ⟨s, A, l, c, rfl, _, _⟩
  · exact hv.below hb (Nat.le_refl _)
  · exact hg.int hv s A l c
  · exact hh.int hv s A l c
theorem Two2.sizes (ht : Two2 g h y z w w') (hg : Res g w) (hh : Res h w) {A : Option Addr} {l c : Nat} {x : Int} (hv : Size w A l c x) : Size w' A l c x := by
  rcases ht with hb | ⟨s, A, l, c, rfl, _, _⟩ | ⟨s, A, l, c, rfl, _, _⟩
  · exact hv.below hb (Nat.le_refl _)
  · exact hg.size hv s A l c
  · exact hh.size hv s A l c
theorem Two2.first (ht : Two2 g h y z w w') (hne : g ≠ h) (hg : Res g w) (hh : Res h w) (hr : InRes w g y) : InRes w' g y := by
  obtain ⟨s0, A0, l0, c0, e0, e1, e2, e3⟩ := hr
  rcases ht with hb | ⟨s, A, l, c, rfl, hs, hz⟩ | ⟨s, A, l, c, rfl, hs, hz⟩
  · exact ⟨s0, A0, l0, c0, (hb.cell (p := ⟨g, 0, none⟩) hg.lt).trans e0, (hb.cell (p := ⟨g, 1, none⟩) hg.lt).trans e1, e2, e3.below hb (Nat.le_refl _)⟩
  · exact ⟨s, A, l, c, hg.put0 s A l c, hg.put1 s A l c, hs, hg.size hz s A l c⟩
  · exact ⟨s0, A0, l0, c0, (setInt_other _ hne s A l c 0).trans e0, (setInt_other _ hne s A l c 1).trans e1, e2, hh.size e3 s A l c⟩
theorem Two2.second (ht : Two2 g h y z w w') (hne : g ≠ h) (hg : Res g w) (hh : Res h w) (hr : InRes w h z) : InRes w' h z := by
  obtain ⟨s0, A0, l0, c0, e0, e1, e2, e3⟩ := hr
  rcases ht with hb | ⟨s, A, l, c, rfl, hs, hz⟩ | ⟨s, A, l, c, rfl, hs, hz⟩
  · exact ⟨s0, A0, l0, c0, (hb.cell (p := ⟨h, 0, none⟩) hh.lt).trans e0, (hb.cell (p := ⟨h, 1, none⟩) hh.lt).trans e1, e2, e3.below hb (Nat.le_refl _)⟩
  · exact ⟨s0, A0, l0, c0, (setInt_other _ (Ne.symm hne) s A l c 0).trans e0, (setInt_other _ (Ne.symm hne) s A l c 1).trans e1, e2, hg.size e3 s A l c⟩
  · exact ⟨s, A, l, c, hh.put0 s A l c, hh.put1 s A l c, hs, hh.size hz s A l c⟩
theorem Quad.two2 {w0 : World} {s t : Int} {u v : Value} (hq : Quad w0 w s t u v) (ht : Two2 (w0.heap.size + 1 + 1) (w0.heap.size + 1 + 1 + 1) y z w w') : Quad w0 w' s t u v := by
  rcases ht with hb | ⟨s, A, l, c, rfl, _, _⟩ | ⟨s, A, l, c, rfl, _, _⟩
  · exact hq.next hb (Nat.le_refl _)
  · exact hq.put4 s A l c
  · exact hq.put5 s A l c
end
/-- What an operation yields: this value. -/
def Is (u : Value) : Value → World → Prop := fun v _ => v = u
def IsI (z : Int) : Value → World → Prop := fun v w => IsInt w v z
def In (g : Nat) (z : Int) : Value → World → Prop := fun _ w => InRes w g z
def Any : Value → World → Prop := fun _ _ => True
/-- While the places are not written yet they hold what they held; the boxes stay. -/
structure Hold (w0 : World) (s t : Int) (u v : Value) (n4 n5 : Nat) (x : Int) (X : Option Addr) (lx cx : Nat) (y : Int) (Y : Option Addr) (ly cy : Nat) (T R : Int) (D : List Nat) (w : World) : Prop where
  q : Quad w0 w s t u v
  d : n4 ∉ D → w.cell? ⟨w0.heap.size + 1 + 1, 0, none⟩ = some (.int .i64 x) ∧ w.cell? ⟨w0.heap.size + 1 + 1, 1, none⟩ = some (.slice X lx cx)
  e : n5 ∉ D → w.cell? ⟨w0.heap.size + 1 + 1 + 1, 0, none⟩ = some (.int .i64 y) ∧ w.cell? ⟨w0.heap.size + 1 + 1 + 1, 1, none⟩ = some (.slice Y ly cy)
  sT : Size w X lx cx T
  sR : Size w Y ly cy R
  hx : x = wrd T
  hy : y = wrd R
section
variable {w0 : World} {s t : Int} {u v : Value} {n4 n5 : Nat} {x : Int} {X : Option Addr} {lx cx : Nat} {y : Int} {Y : Option Addr} {ly cy : Nat} {T R : Int} {D : List Nat} {w w' : World}
theorem Hold.grow (h : Hold w0 s t u v n4 n5 x X lx cx y Y ly cy T R D w) (hb : Below w.heap.size w w') (i : Nat) : Hold w0 s t u v n4 n5 x X lx cx y Y ly cy T R (D ++ [i]) w' := by
  refine ⟨h.q.next hb (Nat.le_refl _), fun hn => ?_, fun hn => ?_, h.sT.below hb (Nat.le_refl _), h.sR.below hb (Nat.le_refl _), h.hx, h.hy⟩
  · have := h.d (fun hm => hn (List.mem_append_left _ hm))
    exact ⟨(hb.cell (p := ⟨_, 0, none⟩) h.q.r4.lt).trans this.1, (hb.cell (p := ⟨_, 1, none⟩) h.q.r4.lt).trans this.2⟩
  · have := h.e (fun hm => hn (List.mem_append_left _ hm))
    exact ⟨(hb.cell (p := ⟨_, 0, none⟩) h.q.r5.lt).trans this.1, (hb.cell (p := ⟨_, 1, none⟩) h.q.r5.lt).trans this.2⟩
theorem Hold.int4 (h : Hold w0 s t u v n4 n5 x X lx cx y Y ly cy T R D w) : IsInt w (.agg #[.int .i64 x, .slice X lx cx]) T := ⟨X, lx, cx, by rw [h.hx], h.sT⟩
theorem Hold.int5 (h : Hold w0 s t u v n4 n5 x X lx cx y Y ly cy T R D w) : IsInt w (.agg #[.int .i64 y, .slice Y ly cy]) R := ⟨Y, ly, cy, by rw [h.hy], h.sR⟩
theorem Put2.hold (h : Put2 w0 w s t u v x X lx cx y Y ly cy T R) (n4 n5 : Nat) : Hold w0 s t u v n4 n5 x X lx cx y Y ly cy T R [] w := ⟨h.q, fun _ => ⟨h.d0, h.d1⟩, fun _ => ⟨h.e0, h.e1⟩, h.hT, h.hR, h.hx, h.hy⟩
theorem Hold.same (h : Hold w0 s t u v n4 n5 x X lx cx y Y ly cy T R D w) (i : Nat) : Hold w0 s t u v n4 n5 x X lx cx y Y ly cy T R (D ++ [i]) w := h.grow (Below.refl _ _) i
theorem Hold.put4 (h : Hold w0 s t u v n4 n5 x X lx cx y Y ly cy T R D w) (z : Int) (A : Option Addr) (l c : Nat) : Hold w0 s t u v n4 n5 x X lx cx y Y ly cy T R (D ++ [n4]) (setInt w (w0.heap.size + 1 + 1) z A l c) := by
  refine ⟨h.q.put4 z A l c, fun hn => absurd (List.mem_append_right _ (List.mem_singleton.2 rfl)) hn, fun hn => ?_, h.q.r4.size h.sT z A l c, h.q.r4.size h.sR z A l c, h.hx, h.hy⟩
  have := h.e (fun hm => hn (List.mem_append_left _ hm))
  exact ⟨(setInt_other w (by omega) z A l c 0).trans this.1, (setInt_other w (by omega) z A l c 1).trans this.2⟩
theorem Hold.put5 (h : Hold w0 s t u v n4 n5 x X lx cx y Y ly cy T R D w) (z : Int) (A : Option Addr) (l c : Nat) : Hold w0 s t u v n4 n5 x X lx cx y Y ly cy T R (D ++ [n5]) (setInt w (w0.heap.size + 1 + 1 + 1) z A l c) := by
  refine ⟨h.q.put5 z A l c, fun hn => ?_, fun hn => absurd (List.mem_append_right _ (List.mem_singleton.2 rfl)) hn, h.q.r5.size h.sT z A l c, h.q.r5.size h.sR z A l c, h.hx, h.hy⟩
  have := h.d (fun hm => hn (List.mem_append_left _ hm))
  exact ⟨(setInt_other w (by omega) z A l c 0).trans this.1, (setInt_other w (by omega) z A l c 1).trans this.2⟩
end
end Go.Proofs.YthnbocojjllfaaaGreatDoor
