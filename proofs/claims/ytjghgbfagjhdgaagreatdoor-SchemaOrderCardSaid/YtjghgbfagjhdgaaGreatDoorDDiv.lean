/- The reference's Div of texts. -/
import Derived.Test.YtjghgbfagjhdgaaGreatDoorDApi
import Derived.Test.YtjghgbfagjhdgaaGreatDoorArith
import Derived.Test.YtjghgbfagjhdgaaGreatDoorRel
namespace Go.Proofs.YtjghgbfagjhdgaaGreatDoor
open Go Go.RowKit

/-- The divisor in block y, quotient and rest in blocks g and g + 1. -/
structure DTri (w0 w : World) (y g : Nat) (t : Bool) (v : Value) (s1 : Bool) (v1 : Value) (s2 : Bool) (v2 : Value) : Prop where
  by_ : w.heap[y]? = some (.cells #[.bool t, v] 94 (0, 0))
  bq : w.heap[g]? = some (.cells #[.bool s1, v1] 94 (0, 0))
  br : w.heap[g + 1]? = some (.cells #[.bool s2, v2] 94 (0, 0))
  yg : y < g
  wy : w0.heap.size ≤ y
  below : Below w0.heap.size w0 w
section
variable {w0 w w' : World} {y g : Nat} {t s1 s2 : Bool} {v v1 v2 : Value}
theorem DTri.cy0 (h : DTri w0 w y g t v s1 v1 s2 v2) : w.cell? ⟨y, 0, none⟩ = some (.bool t) := by simp [World.cell?, h.by_]
theorem DTri.cy1 (h : DTri w0 w y g t v s1 v1 s2 v2) : w.cell? ⟨y, 1, none⟩ = some v := by simp [World.cell?, h.by_]
theorem DTri.cq0 (h : DTri w0 w y g t v s1 v1 s2 v2) : w.cell? ⟨g, 0, none⟩ = some (.bool s1) := by simp [World.cell?, h.bq]
theorem DTri.cq1 (h : DTri w0 w y g t v s1 v1 s2 v2) : w.cell? ⟨g, 1, none⟩ = some v1 := by simp [World.cell?, h.bq]
theorem DTri.cr0 (h : DTri w0 w y g t v s1 v1 s2 v2) : w.cell? ⟨g + 1, 0, none⟩ = some (.bool s2) := by simp [World.cell?, h.br]
theorem DTri.cr1 (h : DTri w0 w y g t v s1 v1 s2 v2) : w.cell? ⟨g + 1, 1, none⟩ = some v2 := by simp [World.cell?, h.br]
theorem DTri.fq (h : DTri w0 w y g t v s1 v1 s2 v2) (i : Nat) : w.frozen? ⟨g, i, none⟩ = false := by simp [World.frozen?, h.bq]
theorem DTri.fr (h : DTri w0 w y g t v s1 v1 s2 v2) (i : Nat) : w.frozen? ⟨g + 1, i, none⟩ = false := by simp [World.frozen?, h.br]
theorem DTri.op (h : DTri w0 w y g t v s1 v1 s2 v2) (hb : Below w.heap.size w w') : DTri w0 w' y g t v s1 v1 s2 v2 := by
  have h1 := lt_of_block h.br
  have := h.yg
  have := h.wy
  exact ⟨(hb.block _ (by omega)).trans h.by_, (hb.block _ (by omega)).trans h.bq, (hb.block _ (by omega)).trans h.br, h.yg, h.wy, h.below.trans (hb.mono (by omega))⟩
theorem DTri.drew (h : DTri w0 w y g t v s1 v1 s2 v2) : DTri w0 w.drew y g t v s1 v1 s2 v2 := ⟨h.by_, h.bq, h.br, h.yg, h.wy, h.below.drew⟩
theorem DTri.putq (h : DTri w0 w y g t v s1 v1 s2 v2) (s : Bool) (u : Value) : DTri w0 (dres w g s u) y g t v s u s2 v2 := by
  have := h.yg
  have := h.wy
  refine ⟨?_, ?_, ?_, h.yg, h.wy, (h.below.setCell (by simp; omega) _).setCell (by simp; omega) _⟩
  · exact (Below.heap_setCell _ _ _ _ (by simp; omega)).trans ((Below.heap_setCell _ _ _ _ (by simp; omega)).trans h.by_)
  · simp [dres, World.setCell, Array.getElem?_modify, h.bq]
  · exact (Below.heap_setCell _ _ _ _ (by simp)).trans ((Below.heap_setCell _ _ _ _ (by simp)).trans h.br)
theorem DTri.putr (h : DTri w0 w y g t v s1 v1 s2 v2) (s : Bool) (u : Value) : DTri w0 (dres w (g + 1) s u) y g t v s1 v1 s u := by
  have := h.yg
  have := h.wy
  refine ⟨?_, ?_, ?_, h.yg, h.wy, (h.below.setCell (by simp; omega) _).setCell (by simp; omega) _⟩
  · exact (Below.heap_setCell _ _ _ _ (by simp; omega)).trans ((Below.heap_setCell _ _ _ _ (by simp; omega)).trans h.by_)
  · exact (Below.heap_setCell _ _ _ _ (by simp)).trans ((Below.heap_setCell _ _ _ _ (by simp)).trans h.bq)
  · simp [dres, World.setCell, Array.getElem?_modify, h.br]
end
theorem DBig.away {w : World} {r : Nat} {u : Value} {z : Int} (h : DBig w u z) (hr : ∃ (x : Bool) (A : Option Addr) (L c : Nat), w.heap[r]? = some (.cells #[.bool x, .slice A L c] 94 (0, 0))) (s : Bool) (v : Value) : DBig (dres w r s v) u z := by
  obtain ⟨x, rfl, hs⟩ := h.size_
  exact (hs.far hr s v).big
/-- Block g is a Big of z. -/
def DAt (w : World) (g : Nat) (z : Int) : Prop := ∃ (s : Bool) (A : Option Addr) (L c : Nat), w.heap[g]? = some (.cells #[.bool s, .slice A L c] 94 (0, 0)) ∧ DBig w (.agg #[.bool s, .slice A L c]) z
theorem DAt.below {w w' : World} {g : Nat} {z : Int} (h : DAt w g z) (hb : Below w.heap.size w w') : DAt w' g z := by
  obtain ⟨s, A, L, c, hc, hd⟩ := h
  exact ⟨s, A, L, c, (hb.block _ (lt_of_block hc)).trans hc, hd.below hb (Nat.le_refl _)⟩
theorem DAt.put {w : World} {g r : Nat} {z : Int} (h : DAt w g z) (hr : ∃ (x : Bool) (A : Option Addr) (L c : Nat), w.heap[r]? = some (.cells #[.bool x, .slice A L c] 94 (0, 0))) (hne : r ≠ g) (s : Bool) (v : Value) : DAt (dres w r s v) g z := by
  obtain ⟨s', A, L, c, hc, hd⟩ := h
  exact ⟨s', A, L, c, (Below.heap_setCell _ _ _ _ (by simp; omega)).trans ((Below.heap_setCell _ _ _ _ (by simp; omega)).trans hc), hd.away hr s v⟩
theorem DAt.new {w : World} {r : Nat} {z : Int} (hr : ∃ (x : Bool) (A : Option Addr) (L c : Nat), w.heap[r]? = some (.cells #[.bool x, .slice A L c] 94 (0, 0))) {s : Bool} {A : Option Addr} {L c : Nat} (h : DBig w (.agg #[.bool s, .slice A L c]) z) : DAt (dres w r s (.slice A L c)) r z := by
  refine ⟨s, A, L, c, ?_, h.away hr _ _⟩
  obtain ⟨x, A', L', c', hr⟩ := hr
  simp [dres, World.setCell, Array.getElem?_modify, hr]
/-- What every step of the region keeps. -/
structure DKeep (g : Nat) (zq zr : Int) (w w' : World) : Prop where
  big : ∀ {u : Value} {z : Int}, DBig w u z → DBig w' u z
  atq : DAt w g zq → DAt w' g zq
  atr : DAt w (g + 1) zr → DAt w' (g + 1) zr
theorem DKeep.below {g : Nat} {zq zr : Int} {w w' : World} (hb : Below w.heap.size w w') : DKeep g zq zr w w' := ⟨fun h => h.below hb (Nat.le_refl _), fun h => h.below hb, fun h => h.below hb⟩
theorem DKeep.same {g : Nat} {zq zr : Int} {w : World} : DKeep g zq zr w w := ⟨fun h => h, fun h => h, fun h => h⟩
/-- The world within the region that corrects: quotient and rest as they were, until they are stored. -/
def DHold (w0 : World) (y g : Nat) (t : Bool) (v : Value) (s1 : Bool) (v1 : Value) (s2 : Bool) (v2 : Value) (z1 z2 z3 : Int) (DD : List Nat) (w : World) : Prop :=
  (∃ (r1 : Bool) (A1 : Option Addr) (L1 c1 : Nat) (r2 : Bool) (A2 : Option Addr) (L2 c2 : Nat), DTri w0 w y g t v r1 (.slice A1 L1 c1) r2 (.slice A2 L2 c2) ∧ (6 ∉ DD → r1 = s1 ∧ .slice A1 L1 c1 = v1) ∧ (7 ∉ DD → r2 = s2 ∧ .slice A2 L2 c2 = v2)) ∧
  DBig w (.agg #[.bool s1, v1]) z1 ∧ DBig w (.agg #[.bool s2, v2]) z2 ∧ DBig w (.agg #[.bool t, v]) z3
section
variable {w0 w w' : World} {y g : Nat} {t s1 s2 : Bool} {v v1 v2 : Value} {z1 z2 z3 : Int} {DD : List Nat}
theorem DHold.same (h : DHold w0 y g t v s1 v1 s2 v2 z1 z2 z3 DD w) (i : Nat) : DHold w0 y g t v s1 v1 s2 v2 z1 z2 z3 (DD ++ [i]) w := by
  obtain ⟨⟨r1, A1, L1, c1, r2, A2, L2, c2, hd, h6, h7⟩, hb⟩ := h
  exact ⟨⟨r1, A1, L1, c1, r2, A2, L2, c2, hd, fun h => h6 fun hm => h (List.mem_append_left _ hm), fun h => h7 fun hm => h (List.mem_append_left _ hm)⟩, hb⟩
theorem DHold.grow (h : DHold w0 y g t v s1 v1 s2 v2 z1 z2 z3 DD w) (hb : Below w.heap.size w w') (i : Nat) : DHold w0 y g t v s1 v1 s2 v2 z1 z2 z3 (DD ++ [i]) w' := by
  obtain ⟨⟨r1, A1, L1, c1, r2, A2, L2, c2, hd, h6, h7⟩, b1, b2, b3⟩ := h
  exact ⟨⟨r1, A1, L1, c1, r2, A2, L2, c2, hd.op hb, fun h => h6 fun hm => h (List.mem_append_left _ hm), fun h => h7 fun hm => h (List.mem_append_left _ hm)⟩, b1.below hb (Nat.le_refl _), b2.below hb (Nat.le_refl _), b3.below hb (Nat.le_refl _)⟩
theorem DHold.bq (h : DHold w0 y g t v s1 v1 s2 v2 z1 z2 z3 DD w) : ∃ (x : Bool) (A : Option Addr) (L c : Nat), w.heap[g]? = some (.cells #[.bool x, .slice A L c] 94 (0, 0)) := by
  obtain ⟨⟨r1, A1, L1, c1, r2, A2, L2, c2, hd, _⟩, _⟩ := h
  exact ⟨_, _, _, _, hd.bq⟩
theorem DHold.br (h : DHold w0 y g t v s1 v1 s2 v2 z1 z2 z3 DD w) : ∃ (x : Bool) (A : Option Addr) (L c : Nat), w.heap[g + 1]? = some (.cells #[.bool x, .slice A L c] 94 (0, 0)) := by
  obtain ⟨⟨r1, A1, L1, c1, r2, A2, L2, c2, hd, _⟩, _⟩ := h
  exact ⟨_, _, _, _, hd.br⟩
theorem DHold.putq (h : DHold w0 y g t v s1 v1 s2 v2 z1 z2 z3 DD w) (s : Bool) (A : Option Addr) (L c : Nat) : DHold w0 y g t v s1 v1 s2 v2 z1 z2 z3 (DD ++ [6]) (dres w g s (.slice A L c)) := by
  have hq := h.bq
  obtain ⟨⟨r1, A1, L1, c1, r2, A2, L2, c2, hd, h6, h7⟩, b1, b2, b3⟩ := h
  exact ⟨⟨s, A, L, c, r2, A2, L2, c2, hd.putq s (.slice A L c), fun h => absurd (List.mem_append_right _ (List.mem_singleton.2 rfl)) h, fun h => h7 fun hm => h (List.mem_append_left _ hm)⟩, b1.away hq _ _, b2.away hq _ _, b3.away hq _ _⟩
theorem DHold.putr (h : DHold w0 y g t v s1 v1 s2 v2 z1 z2 z3 DD w) (s : Bool) (A : Option Addr) (L c : Nat) : DHold w0 y g t v s1 v1 s2 v2 z1 z2 z3 (DD ++ [7]) (dres w (g + 1) s (.slice A L c)) := by
  have hq := h.br
  obtain ⟨⟨r1, A1, L1, c1, r2, A2, L2, c2, hd, h6, h7⟩, b1, b2, b3⟩ := h
  exact ⟨⟨r1, A1, L1, c1, s, A, L, c, hd.putr s (.slice A L c), fun h => h6 fun hm => h (List.mem_append_left _ hm), fun h => absurd (List.mem_append_right _ (List.mem_singleton.2 rfl)) h⟩, b1.away hq _ _, b2.away hq _ _, b3.away hq _ _⟩
theorem DHold.q (h : DHold w0 y g t v s1 v1 s2 v2 z1 z2 z3 DD w) (hn : 6 ∉ DD) : w.cell? ⟨g, 0, none⟩ = some (.bool s1) ∧ w.cell? ⟨g, 1, none⟩ = some v1 := by
  obtain ⟨⟨r1, A1, L1, c1, r2, A2, L2, c2, hd, h6, h7⟩, _⟩ := h
  obtain ⟨rfl, rfl⟩ := h6 hn
  exact ⟨hd.cq0, hd.cq1⟩
theorem DHold.r (h : DHold w0 y g t v s1 v1 s2 v2 z1 z2 z3 DD w) (hn : 7 ∉ DD) : w.cell? ⟨g + 1, 0, none⟩ = some (.bool s2) ∧ w.cell? ⟨g + 1, 1, none⟩ = some v2 := by
  obtain ⟨⟨r1, A1, L1, c1, r2, A2, L2, c2, hd, h6, h7⟩, _⟩ := h
  obtain ⟨rfl, rfl⟩ := h7 hn
  exact ⟨hd.cr0, hd.cr1⟩
theorem DHold.dv (h : DHold w0 y g t v s1 v1 s2 v2 z1 z2 z3 DD w) : w.cell? ⟨y, 0, none⟩ = some (.bool t) ∧ w.cell? ⟨y, 1, none⟩ = some v := by
  obtain ⟨⟨r1, A1, L1, c1, r2, A2, L2, c2, hd, h6, h7⟩, _⟩ := h
  exact ⟨hd.cy0, hd.cy1⟩
theorem DHold.cells (h : DHold w0 y g t v s1 v1 s2 v2 z1 z2 z3 DD w) : ∃ u0 u1 u2 u3, w.cell? ⟨g, 0, none⟩ = some u0 ∧ w.cell? ⟨g, 1, none⟩ = some u1 ∧ w.cell? ⟨g + 1, 0, none⟩ = some u2 ∧ w.cell? ⟨g + 1, 1, none⟩ = some u3 ∧
    w.frozen? ⟨g, 0, none⟩ = false ∧ w.frozen? ⟨g, 1, none⟩ = false ∧ w.frozen? ⟨g + 1, 0, none⟩ = false ∧ w.frozen? ⟨g + 1, 1, none⟩ = false := by
  obtain ⟨⟨r1, A1, L1, c1, r2, A2, L2, c2, hd, h6, h7⟩, _⟩ := h
  exact ⟨_, _, _, _, hd.cq0, hd.cq1, hd.cr0, hd.cr1, hd.fq 0, hd.fq 1, hd.fr 0, hd.fr 1⟩
theorem DHold.end_ {zq zr : Int} (h : DHold w0 y g t v s1 v1 s2 v2 z1 z2 z3 DD w) (hq : DAt w g zq) (hr : DAt w (g + 1) zr) : ∃ (r1 : Bool) (A1 : Option Addr) (L1 c1 : Nat) (r2 : Bool) (A2 : Option Addr) (L2 c2 : Nat),
    DTri w0 w y g t v r1 (.slice A1 L1 c1) r2 (.slice A2 L2 c2) ∧ DBig w (.agg #[.bool r1, .slice A1 L1 c1]) zq ∧ DBig w (.agg #[.bool r2, .slice A2 L2 c2]) zr := by
  obtain ⟨⟨r1, A1, L1, c1, r2, A2, L2, c2, hd, h6, h7⟩, _⟩ := h
  obtain ⟨s, A, L, c, hc, hb⟩ := hq
  obtain ⟨s', A', L', c', hc', hb'⟩ := hr
  have e1 := hd.bq.symm.trans hc
  have e2 := hd.br.symm.trans hc'
  simp at e1 e2
  obtain ⟨rfl, rfl, rfl, rfl⟩ := e1
  obtain ⟨rfl, rfl, rfl, rfl⟩ := e2
  exact ⟨_, _, _, _, _, _, _, _, hd, hb, hb'⟩
end
/-- The quotient that leaves no negative rest, out of the one towards 0. -/
theorem euclid {p q : Int} (hq : q ≠ 0) : (¬ p.tmod q < 0 → p / q = p.tdiv q ∧ p % q = p.tmod q) ∧ (p.tmod q < 0 → q < 0 → p / q = p.tdiv q + 1 ∧ p % q = p.tmod q - q) ∧ (p.tmod q < 0 → ¬ q < 0 → p / q = p.tdiv q - 1 ∧ p % q = p.tmod q + q) := by
  have e1 := Int.mul_tdiv_add_tmod p q
  have habs : (p.tmod q).natAbs < q.natAbs := by rw [Int.natAbs_tmod]; exact Nat.mod_lt _ (by omega)
  have key : ∀ d r : Int, q * d + r = p → 0 ≤ r → r < q.natAbs → p / q = d ∧ p % q = r := by
    intro d r h1 h2 h3
    have hr : p % q = r := by
      rw [← h1, Int.add_comm, Int.add_mul_emod_self_left]
      rcases Int.natAbs_eq q with h | h
      · exact Int.emod_eq_of_lt h2 (by omega)
      · rw [h, Int.emod_neg]; exact Int.emod_eq_of_lt h2 (by omega)
    refine ⟨?_, hr⟩
    have e2 := Int.mul_ediv_add_emod p q
    rw [hr] at e2
    exact Int.eq_of_mul_eq_mul_left hq (by omega)
  refine ⟨fun h => key _ _ e1 (by omega) (by omega), fun h1 h2 => key _ _ (by rw [Int.mul_add, Int.mul_one]; omega) (by omega) (by omega), fun h1 h2 => key _ _ (by rw [Int.mul_sub, Int.mul_one]; omega) (by omega) (by omega)⟩

theorem ndig_mono {a b : Nat} (h : a ≤ b) : Lib.nDigits a ≤ Lib.nDigits b := by
  obtain ⟨k, hk⟩ : ∃ k, Lib.nDigits b = k + 1 := ⟨Lib.nDigits b - 1, by have := Lib.nDigits_pos b; omega⟩
  have h1 := Lib.lt_pow_nDigits b
  rw [hk] at h1 ⊢
  exact D.nDig_le (Nat.lt_of_le_of_lt h h1)
theorem eucl_small {p q : Int} (hq : q ≠ 0) : (p / q).natAbs ≤ p.natAbs ∧ (p % q).natAbs ≤ q.natAbs := by
  refine ⟨Int.natAbs_ediv_le_natAbs p q, ?_⟩
  have h1 := Int.emod_nonneg p hq
  rcases Int.natAbs_eq q with h | h
  · have := Int.emod_lt_of_pos p (show 0 < q by omega)
    omega
  · have h2 := Int.emod_lt_of_pos p (show 0 < -q by omega)
    rw [Int.emod_neg] at h2
    omega
theorem dof_one {w : World} : Calls Tryz.prog 53 #[.int .i64 1] w fun e w' => ∃ s, e = .returned (.agg #[.bool false, s]) ∧ DSz w' s 1 ∧ Below w.heap.size w w' := by
  refine (rof_any 1 (by decide) (by decide)).mono ?_
  rintro e w' ⟨s, rfl, hs, hb⟩
  exact ⟨s, rfl, hs, hb⟩
end Go.Proofs.YtjghgbfagjhdgaaGreatDoor
