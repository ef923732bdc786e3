/- Divide of integers. Two results in their places, written in whatever order: what stays. -/
import Derived.Test.YtjghgbfagjhdgaaGreatDoorIntE
import Derived.Test.YtjghgbfagjhdgaaGreatDoorLongs
import Derived.Test.YtjghgbfagjhdgaaGreatDoorRel
namespace Go.Proofs.YtjghgbfagjhdgaaGreatDoor
open Go Go.RowKit

/-- Two boxed integers and places for two results. -/
def box4 (w : World) (s t : Int) (u v : Value) : World := (box3 w s t u v).alloc (.cells #[.int .i64 0, .slice none 0 0] 77)
structure Quad (w0 w : World) (s t : Int) (u v : Value) : Prop where
  a0 : w.cell? ⟨w0.heap.size, 0, none⟩ = some (.int .i64 s)
  a1 : w.cell? ⟨w0.heap.size, 1, none⟩ = some u
  b0 : w.cell? ⟨w0.heap.size + 1, 0, none⟩ = some (.int .i64 t)
  b1 : w.cell? ⟨w0.heap.size + 1, 1, none⟩ = some v
  r4 : Res (w0.heap.size + 1 + 1) w
  r5 : Res (w0.heap.size + 1 + 1 + 1) w
  size : w0.heap.size + 4 ≤ w.heap.size
  below : Below w0.heap.size w0 w
theorem Res.far {g g' : Nat} {w : World} (h : Res g w) (hne : g ≠ g') (s : Int) (A : Option Addr) (l c : Nat) : Res g (setInt w g' s A l c) := by
  obtain ⟨b', A', l', c', e⟩ := h.r
  exact ⟨⟨b', A', l', c', by rw [setInt_block w hne]; exact e⟩⟩
theorem box4_quad (w : World) (s t : Int) (u v : Value) : Quad w (box4 w s t u v) s t u v := by
  have h := box3_two w s t u v
  have hs : (box3 w s t u v).heap.size = w.heap.size + 1 + 1 + 1 := by simp [box3]
  have hb : Below (box3 w s t u v).heap.size (box3 w s t u v) (box4 w s t u v) := (Below.refl _ _).alloc (Nat.le_refl _) _
  have h2 := h.next hb (Nat.le_refl _)
  have hr : Res (w.heap.size + 1 + 1 + 1) (box4 w s t u v) := by rw [← hs]; exact Res.new _
  exact ⟨h2.a0, h2.a1, h2.b0, h2.b1, h2.r, hr, by have := hr.lt; omega, h2.below⟩
section
variable {w0 w w' : World} {s t : Int} {u v : Value}
theorem Quad.next (h : Quad w0 w s t u v) {B : Nat} (hb : Below B w w') (hB : w.heap.size ≤ B) : Quad w0 w' s t u v :=
  ⟨(hb.cell (p := ⟨_, 0, none⟩) (by have := h.size; simp; omega)).trans h.a0, (hb.cell (p := ⟨_, 1, none⟩) (by have := h.size; simp; omega)).trans h.a1,
   (hb.cell (p := ⟨_, 0, none⟩) (by have := h.size; simp; omega)).trans h.b0, (hb.cell (p := ⟨_, 1, none⟩) (by have := h.size; simp; omega)).trans h.b1,
   h.r4.next hb (by have := h.size; omega), h.r5.next hb (by have := h.size; omega), Nat.le_trans h.size hb.size, h.below.trans (hb.mono (by have := h.size; omega))⟩
theorem Quad.drew (h : Quad w0 w s t u v) : Quad w0 w.drew s t u v := ⟨h.a0, h.a1, h.b0, h.b1, h.r4.drew, h.r5.drew, h.size, h.below.drew⟩
theorem Quad.put4 (h : Quad w0 w s t u v) (x : Int) (A : Option Addr) (l c : Nat) : Quad w0 (setInt w (w0.heap.size + 1 + 1) x A l c) s t u v :=
  ⟨(setInt_other w (by omega) x A l c 0).trans h.a0, (setInt_other w (by omega) x A l c 1).trans h.a1, (setInt_other w (by omega) x A l c 0).trans h.b0, (setInt_other w (by omega) x A l c 1).trans h.b1,
   h.r4.put x A l c, h.r5.far (by omega) x A l c, by rw [setInt_size]; exact h.size, setInt_below h.below (by omega) x A l c⟩
theorem Quad.put5 (h : Quad w0 w s t u v) (x : Int) (A : Option Addr) (l c : Nat) : Quad w0 (setInt w (w0.heap.size + 1 + 1 + 1) x A l c) s t u v :=
  ⟨(setInt_other w (by omega) x A l c 0).trans h.a0, (setInt_other w (by omega) x A l c 1).trans h.a1, (setInt_other w (by omega) x A l c 0).trans h.b0, (setInt_other w (by omega) x A l c 1).trans h.b1,
   h.r4.far (by omega) x A l c, h.r5.put x A l c, by rw [setInt_size]; exact h.size, setInt_below h.below (by omega) x A l c⟩
end
/-- Two results in their places. -/
structure Put2 (w0 w : World) (s t : Int) (u v : Value) (x : Int) (X : Option Addr) (lx cx : Nat) (y : Int) (Y : Option Addr) (ly cy : Nat) (T R : Int) : Prop where
  q : Quad w0 w s t u v
  d0 : w.cell? ⟨w0.heap.size + 1 + 1, 0, none⟩ = some (.int .i64 x)
  d1 : w.cell? ⟨w0.heap.size + 1 + 1, 1, none⟩ = some (.slice X lx cx)
  e0 : w.cell? ⟨w0.heap.size + 1 + 1 + 1, 0, none⟩ = some (.int .i64 y)
  e1 : w.cell? ⟨w0.heap.size + 1 + 1 + 1, 1, none⟩ = some (.slice Y ly cy)
  hT : Size w X lx cx T
  hR : Size w Y ly cy R
  hx : x = wrd T
  hy : y = wrd R
theorem Quad.put2 {w0 w : World} {s t : Int} {u v : Value} {x y T R : Int} {X Y : Option Addr} {lx cx ly cy : Nat} (h : Quad w0 w s t u v) (hT : Size w X lx cx T) (hR : Size w Y ly cy R) (hx : x = wrd T) (hy : y = wrd R) :
    Put2 w0 (setInt (setInt w (w0.heap.size + 1 + 1) x X lx cx) (w0.heap.size + 1 + 1 + 1) y Y ly cy) s t u v x X lx cx y Y ly cy T R := by
  have h4 := h.put4 x X lx cx
  have h5 := h4.put5 y Y ly cy
  exact ⟨h5, (setInt_other _ (by omega) y Y ly cy 0).trans (h.r4.put0 x X lx cx), (setInt_other _ (by omega) y Y ly cy 1).trans (h.r4.put1 x X lx cx), h4.r5.put0 y Y ly cy, h4.r5.put1 y Y ly cy,
    h4.r5.size (h.r4.size hT x X lx cx) y Y ly cy, h4.r5.size (h.r4.size hR x X lx cx) y Y ly cy, hx, hy⟩
theorem Put2.next {w0 w w' : World} {s t : Int} {u v : Value} {x y T R : Int} {X Y : Option Addr} {lx cx ly cy : Nat} (h : Put2 w0 w s t u v x X lx cx y Y ly cy T R) {B : Nat} (hb : Below B w w') (hB : w.heap.size ≤ B) :
    Put2 w0 w' s t u v x X lx cx y Y ly cy T R :=
  ⟨h.q.next hb hB, (hb.cell (p := ⟨_, 0, none⟩) (by have := h.q.size; simp; omega)).trans h.d0, (hb.cell (p := ⟨_, 1, none⟩) (by have := h.q.size; simp; omega)).trans h.d1,
   (hb.cell (p := ⟨_, 0, none⟩) (by have := h.q.size; simp; omega)).trans h.e0, (hb.cell (p := ⟨_, 1, none⟩) (by have := h.q.size; simp; omega)).trans h.e1, h.hT.below hb hB, h.hR.below hb hB, h.hx, h.hy⟩
theorem Put2.drew {w0 w : World} {s t : Int} {u v : Value} {x y T R : Int} {X Y : Option Addr} {lx cx ly cy : Nat} (h : Put2 w0 w s t u v x X lx cx y Y ly cy T R) : Put2 w0 w.drew s t u v x X lx cx y Y ly cy T R :=
  ⟨h.q.drew, h.d0, h.d1, h.e0, h.e1, h.hT, h.hR, h.hx, h.hy⟩

theorem Put2.again4 {w0 w : World} {s t : Int} {u v : Value} {x y T R : Int} {X Y : Option Addr} {lx cx ly cy : Nat} (h : Put2 w0 w s t u v x X lx cx y Y ly cy T R) : Put2 w0 (setInt w (w0.heap.size + 1 + 1) x X lx cx) s t u v x X lx cx y Y ly cy T R :=
  ⟨h.q.put4 x X lx cx, h.q.r4.put0 x X lx cx, h.q.r4.put1 x X lx cx, (setInt_other _ (by omega) x X lx cx 0).trans h.e0, (setInt_other _ (by omega) x X lx cx 1).trans h.e1, h.q.r4.size h.hT x X lx cx, h.q.r4.size h.hR x X lx cx, h.hx, h.hy⟩
theorem Put2.again5 {w0 w : World} {s t : Int} {u v : Value} {x y T R : Int} {X Y : Option Addr} {lx cx ly cy : Nat} (h : Put2 w0 w s t u v x X lx cx y Y ly cy T R) : Put2 w0 (setInt w (w0.heap.size + 1 + 1 + 1) y Y ly cy) s t u v x X lx cx y Y ly cy T R :=
  ⟨h.q.put5 y Y ly cy, (setInt_other _ (by omega) y Y ly cy 0).trans h.d0, (setInt_other _ (by omega) y Y ly cy 1).trans h.d1, h.q.r5.put0 y Y ly cy, h.q.r5.put1 y Y ly cy, h.q.r5.size h.hT y Y ly cy, h.q.r5.size h.hR y Y ly cy, h.hx, h.hy⟩
theorem Put2.int4 {w0 w : World} {s t : Int} {u v : Value} {x y T R : Int} {X Y : Option Addr} {lx cx ly cy : Nat} (h : Put2 w0 w s t u v x X lx cx y Y ly cy T R) : IsInt w (.agg #[.int .i64 x, .slice X lx cx]) T := ⟨X, lx, cx, by rw [h.hx], h.hT⟩
theorem Put2.int5 {w0 w : World} {s t : Int} {u v : Value} {x y T R : Int} {X Y : Option Addr} {lx cx ly cy : Nat} (h : Put2 w0 w s t u v x X lx cx y Y ly cy T R) : IsInt w (.agg #[.int .i64 y, .slice Y ly cy]) R := ⟨Y, ly, cy, by rw [h.hy], h.hR⟩

/-- Truncated and Euclidean division. -/
theorem trunc_abs {p q : Int} (hq : q ≠ 0) : withSign (sgn p != sgn q) (p.natAbs / q.natAbs) = p.tdiv q ∧ withSign (decide (wrd p < 0)) (p.natAbs % q.natAbs) = p.tmod q := by
  have hw := wrd_neg p
  constructor
  · rcases Int.lt_trichotomy p 0 with h1 | h1 | h1 <;> rcases Int.lt_or_gt_of_ne hq with h2 | h2
    · have e1 : p = -(p.natAbs : Int) := by omega
      have e2 : q = -(q.natAbs : Int) := by omega
      have : sgn p = sgn q := by unfold sgn; rw [if_pos h1, if_pos h2]
      rw [this]
      conv => rhs; rw [e1, e2, Int.neg_tdiv_neg]
      simp [withSign]
    · have e1 : p = -(p.natAbs : Int) := by omega
      have e2 : q = (q.natAbs : Int) := by omega
      have : (sgn p != sgn q) = true := by unfold sgn; rw [if_pos h1, if_neg (by omega), if_pos h2]; rfl
      rw [this]
      conv => rhs; rw [e1, e2, Int.neg_tdiv]
      simp [withSign]
    · subst h1
      simp [withSign]
    · subst h1
      simp [withSign]
    · have e1 : p = (p.natAbs : Int) := by omega
      have e2 : q = -(q.natAbs : Int) := by omega
      have : (sgn p != sgn q) = true := by unfold sgn; rw [if_neg (by omega), if_pos h1, if_pos h2]; rfl
      rw [this]
      conv => rhs; rw [e1, e2, Int.tdiv_neg]
      simp [withSign]
    · have e1 : p = (p.natAbs : Int) := by omega
      have e2 : q = (q.natAbs : Int) := by omega
      have : sgn p = sgn q := by unfold sgn; rw [if_neg (by omega), if_pos h1, if_neg (by omega), if_pos h2]
      rw [this]
      conv => rhs; rw [e1, e2]
      simp [withSign]
  · have e : p.tmod q = p.tmod (q.natAbs : Int) := by
      rcases Int.lt_or_gt_of_ne hq with h2 | h2
      · conv => lhs; rw [show q = -(q.natAbs : Int) by omega, Int.tmod_neg]
      · conv => lhs; rw [show q = (q.natAbs : Int) by omega]
    rw [e]
    by_cases h1 : p < 0
    · rw [decide_eq_true (hw.2 h1)]
      conv => rhs; rw [show p = -(p.natAbs : Int) by omega, Int.neg_tmod, tmod_nat]
      rfl
    · rw [decide_eq_false (fun e => h1 (hw.1 e))]
      conv => rhs; rw [show p = (p.natAbs : Int) by omega, tmod_nat]
      rfl
theorem euclid_of {p q : Int} (hq : q ≠ 0) : (0 ≤ p.tmod q → p / q = p.tdiv q ∧ p % q = p.tmod q) ∧ (p.tmod q < 0 → 0 < q → p / q = p.tdiv q - 1 ∧ p % q = p.tmod q + q) ∧ (p.tmod q < 0 → q < 0 → p / q = p.tdiv q + 1 ∧ p % q = p.tmod q - q) := by
  have h1 := Int.tmod_add_mul_tdiv p q
  have h2 := Int.emod_add_mul_ediv p q
  have h3 := Int.emod_nonneg p hq
  have h4 : p % q < q.natAbs := by have := Int.emod_lt p hq; omega
  have h5 : (p.tmod q).natAbs < q.natAbs := by
    rw [Int.natAbs_tmod]; exact Nat.mod_lt _ (by omega)
  generalize p.tmod q = r at *
  generalize p.tdiv q = t at *
  generalize p % q = m at *
  generalize p / q = d at *
  -- the difference of the rests is a multiple of q that is less than 2|q|
  have key : m - r = q * (t - d) := by rw [Int.mul_sub]; omega
  have hb : ∀ k : Int, m - r = q * k → (k = 0 ∨ k = 1 ∨ k = -1 ∨ 2 ≤ k ∨ k ≤ -2) := fun k _ => by omega
  have big : ∀ k : Int, m - r = q * k → (2 ≤ k ∨ k ≤ -2) → False := by
    intro k hk hh
    have h6 : (m - r).natAbs = q.natAbs * k.natAbs := by rw [hk, Int.natAbs_mul]
    have h7 : q.natAbs * 2 ≤ q.natAbs * k.natAbs := Nat.mul_le_mul_left _ (by omega)
    omega
  rcases hb _ key with h | h | h | h | h
  · rw [h] at key
    simp at key
    exact ⟨fun _ => ⟨by omega, by omega⟩, fun h8 _ => ⟨by omega, by omega⟩, fun h8 _ => ⟨by omega, by omega⟩⟩
  · rw [h] at key
    simp at key
    exact ⟨fun _ => ⟨by omega, by omega⟩, fun h8 _ => ⟨by omega, by omega⟩, fun h8 _ => ⟨by omega, by omega⟩⟩
  · rw [h] at key
    simp at key
    exact ⟨fun _ => ⟨by omega, by omega⟩, fun h8 _ => ⟨by omega, by omega⟩, fun h8 _ => ⟨by omega, by omega⟩⟩
  · exact (big _ key (.inl h)).elim
  · exact (big _ key (.inr h)).elim
end Go.Proofs.YtjghgbfagjhdgaaGreatDoor
namespace Go.Proofs.YtjghgbfagjhdgaaGreatDoor
open Go Go.RowKit

/-- The place g holds the integer z. -/
def InRes (w : World) (g : Nat) (z : Int) : Prop := ∃ s A l c, w.cell? ⟨g, 0, none⟩ = some (.int .i64 s) ∧ w.cell? ⟨g, 1, none⟩ = some (.slice A l c) ∧ s = wrd z ∧ Size w A l c z
/-- A step: memory is made, or one of the two places gets its integer. -/
def Two2 (g h : Nat) (y z : Int) (w w' : World) : Prop :=
  Below w.heap.size w w' ∨ (∃ s A l c, w' = setInt w g s A l c ∧ s = wrd y ∧ Size w A l c y) ∨ (∃ s A l c, w' = setInt w h s A l c ∧ s = wrd z ∧ Size w A l c z)
section
variable {g h : Nat} {y z : Int} {w w' : World}
theorem Two2.int (ht : Two2 g h y z w w') (hg : Res g w) (hh : Res h w) {v : Value} {x : Int} (hv : IsInt w v x) : IsInt w' v x := by
  rcases ht with hb | ⟨s, A, l, c, rfl, _, _⟩ | ⟨s, A, l, c, rfl, _, _⟩
  · exact hv.below hb (Nat.le_refl _)
  · exact hg.int hv s A l c
  · exact hh.int hv s A l c
theorem Two2.sizes (ht : Two2 g h y z w w') (hg : Res g w) (hh : Res h w) {A : Option Addr} {l c : Nat} {x : Int} (hv : Size w A l c x) : Size w' A l c x := by
  rcases ht with hb | ⟨s, A, l, c, rfl, _, _⟩ | ⟨s, A, l, c, rfl, _, _⟩
  · exact hv.below hb (Nat.le_refl _)
  · exact hg.size hv s A l c
  · exact hh.size hv s A l c
theorem Two2.first (ht : Two2 g h y z w w') (hne : g ≠ h) (hg : Res g w) (hh : Res h w) (hr : InRes w g y) : InRes w' g y := by
  obtain ⟨s0, A0, l0, c0, e0, e1, e2, e3⟩ := hr
  rcases ht with hb | ⟨s, A, l, c, rfl, hs, hz⟩ | ⟨s, A, l, c, rfl, hs, hz⟩
  · exact ⟨s0, A0, l0, c0, (hb.cell (p := ⟨g, 0, none⟩) hg.lt).trans e0, (hb.cell (p := ⟨g, 1, none⟩) hg.lt).trans e1, e2, e3.below hb (Nat.le_refl _)⟩
  · exact ⟨s, A, l, c, hg.put0 s A l c, hg.put1 s A l c, hs, hg.size hz s A l c⟩
  · exact ⟨s0, A0, l0, c0, (setInt_other _ hne s A l c 0).trans e0, (setInt_other _ hne s A l c 1).trans e1, e2, hh.size e3 s A l c⟩
theorem Two2.second (ht : Two2 g h y z w w') (hne : g ≠ h) (hg : Res g w) (hh : Res h w) (hr : InRes w h z) : InRes w' h z := by
  obtain ⟨s0, A0, l0, c0, e0, e1, e2, e3⟩ := hr
  rcases ht with hb | ⟨s, A, l, c, rfl, hs, hz⟩ | ⟨s, A, l, c, rfl, hs, hz⟩
  · exact ⟨s0, A0, l0, c0, (hb.cell (p := ⟨h, 0, none⟩) hh.lt).trans e0, (hb.cell (p := ⟨h, 1, none⟩) hh.lt).trans e1, e2, e3.below hb (Nat.le_refl _)⟩
  · exact ⟨s0, A0, l0, c0, (setInt_other _ (Ne.symm hne) s A l c 0).trans e0, (setInt_other _ (Ne.symm hne) s A l c 1).trans e1, e2, hg.size e3 s A l c⟩
  · exact ⟨s, A, l, c, hh.put0 s A l c, hh.put1 s A l c, hs, hh.size hz s A l c⟩
theorem Quad.two2 {w0 : World} {s t : Int} {u v : Value} (hq : Quad w0 w s t u v) (ht : Two2 (w0.heap.size + 1 + 1) (w0.heap.size + 1 + 1 + 1) y z w w') : Quad w0 w' s t u v := by
  rcases ht with hb | ⟨s, A, l, c, rfl, _, _⟩ | ⟨s, A, l, c, rfl, _, _⟩
  · exact hq.next hb (Nat.le_refl _)
  · exact hq.put4 s A l c
  · exact hq.put5 s A l c
end
/-- What an operation yields: this value. -/
def Is (u : Value) : Value → World → Prop := fun v _ => v = u
def IsI (z : Int) : Value → World → Prop := fun v w => IsInt w v z
def In (g : Nat) (z : Int) : Value → World → Prop := fun _ w => InRes w g z
def Any : Value → World → Prop := fun _ _ => True
/-- While the places are not written yet they hold what they held; the boxes stay. -/
structure Hold (w0 : World) (s t : Int) (u v : Value) (n4 n5 : Nat) (x : Int) (X : Option Addr) (lx cx : Nat) (y : Int) (Y : Option Addr) (ly cy : Nat) (T R : Int) (D : List Nat) (w : World) : Prop where
  q : Quad w0 w s t u v
  d : n4 ∉ D → w.cell? ⟨w0.heap.size + 1 + 1, 0, none⟩ = some (.int .i64 x) ∧ w.cell? ⟨w0.heap.size + 1 + 1, 1, none⟩ = some (.slice X lx cx)
  e : n5 ∉ D → w.cell? ⟨w0.heap.size + 1 + 1 + 1, 0, none⟩ = some (.int .i64 y) ∧ w.cell? ⟨w0.heap.size + 1 + 1 + 1, 1, none⟩ = some (.slice Y ly cy)
  sT : Size w X lx cx T
  sR : Size w Y ly cy R
  hx : x = wrd T
  hy : y = wrd R
section
variable {w0 : World} {s t : Int} {u v : Value} {n4 n5 : Nat} {x : Int} {X : Option Addr} {lx cx : Nat} {y : Int} {Y : Option Addr} {ly cy : Nat} {T R : Int} {D : List Nat} {w w' : World}
theorem Hold.grow (h : Hold w0 s t u v n4 n5 x X lx cx y Y ly cy T R D w) (hb : Below w.heap.size w w') (i : Nat) : Hold w0 s t u v n4 n5 x X lx cx y Y ly cy T R (D ++ [i]) w' := by
  refine ⟨h.q.next hb (Nat.le_refl _), fun hn => ?_, fun hn => ?_, h.sT.below hb (Nat.le_refl _), h.sR.below hb (Nat.le_refl _), h.hx, h.hy⟩
  · have := h.d (fun hm => hn (List.mem_append_left _ hm))
    exact ⟨(hb.cell (p := ⟨_, 0, none⟩) h.q.r4.lt).trans this.1, (hb.cell (p := ⟨_, 1, none⟩) h.q.r4.lt).trans this.2⟩
  · have := h.e (fun hm => hn (List.mem_append_left _ hm))
    exact ⟨(hb.cell (p := ⟨_, 0, none⟩) h.q.r5.lt).trans this.1, (hb.cell (p := ⟨_, 1, none⟩) h.q.r5.lt).trans this.2⟩
theorem Hold.int4 (h : Hold w0 s t u v n4 n5 x X lx cx y Y ly cy T R D w) : IsInt w (.agg #[.int .i64 x, .slice X lx cx]) T := ⟨X, lx, cx, by rw [h.hx], h.sT⟩
theorem Hold.int5 (h : Hold w0 s t u v n4 n5 x X lx cx y Y ly cy T R D w) : IsInt w (.agg #[.int .i64 y, .slice Y ly cy]) R := ⟨Y, ly, cy, by rw [h.hy], h.sR⟩
theorem Put2.hold (h : Put2 w0 w s t u v x X lx cx y Y ly cy T R) (n4 n5 : Nat) : Hold w0 s t u v n4 n5 x X lx cx y Y ly cy T R [] w := ⟨h.q, fun _ => ⟨h.d0, h.d1⟩, fun _ => ⟨h.e0, h.e1⟩, h.hT, h.hR, h.hx, h.hy⟩
theorem Hold.same (h : Hold w0 s t u v n4 n5 x X lx cx y Y ly cy T R D w) (i : Nat) : Hold w0 s t u v n4 n5 x X lx cx y Y ly cy T R (D ++ [i]) w := h.grow (Below.refl _ _) i
theorem Hold.put4 (h : Hold w0 s t u v n4 n5 x X lx cx y Y ly cy T R D w) (z : Int) (A : Option Addr) (l c : Nat) : Hold w0 s t u v n4 n5 x X lx cx y Y ly cy T R (D ++ [n4]) (setInt w (w0.heap.size + 1 + 1) z A l c) := by
  refine ⟨h.q.put4 z A l c, fun hn => absurd (List.mem_append_right _ (List.mem_singleton.2 rfl)) hn, fun hn => ?_, h.q.r4.size h.sT z A l c, h.q.r4.size h.sR z A l c, h.hx, h.hy⟩
  have := h.e (fun hm => hn (List.mem_append_left _ hm))
  exact ⟨(setInt_other w (by omega) z A l c 0).trans this.1, (setInt_other w (by omega) z A l c 1).trans this.2⟩
theorem Hold.put5 (h : Hold w0 s t u v n4 n5 x X lx cx y Y ly cy T R D w) (z : Int) (A : Option Addr) (l c : Nat) : Hold w0 s t u v n4 n5 x X lx cx y Y ly cy T R (D ++ [n5]) (setInt w (w0.heap.size + 1 + 1 + 1) z A l c) := by
  refine ⟨h.q.put5 z A l c, fun hn => ?_, fun hn => absurd (List.mem_append_right _ (List.mem_singleton.2 rfl)) hn, h.q.r5.size h.sT z A l c, h.q.r5.size h.sR z A l c, h.hx, h.hy⟩
  have := h.d (fun hm => hn (List.mem_append_left _ hm))
  exact ⟨(setInt_other w (by omega) z A l c 0).trans this.1, (setInt_other w (by omega) z A l c 1).trans this.2⟩
end
end Go.Proofs.YtjghgbfagjhdgaaGreatDoor
