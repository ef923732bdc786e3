/- The reference's Div of texts. -/
import Derived.Test.YtfogkkanifnppaaGreatDoorDApi
import Derived.Test.YtfogkkanifnppaaGreatDoorArith
import Derived.Test.YtfogkkanifnppaaGreatDoorRel
namespace Go.Proofs.YtfogkkanifnppaaGreatDoor
open Go Go.RowKit

/-- The divisor in block y, quotient and rest in blocks g and g + 1. -/
structure DTri (w0 w : World) (y g : Nat) (t : Bool) (v : Value) (s1 : Bool) (v1 : Value) (s2 : Bool) (v2 : Value) : Prop where
  by_ : w.heap[y]? = some (.cells #[.bool t, v] 64 (0, 0))
  bq : w.heap[g]? = some (.cells #[.bool s1, v1] 64 (0, 0))
  br : w.heap[g + 1]? = some (.cells #[.bool s2, v2] 64 (0, 0))
  yg : y < g
  wy : w0.heap.size ≤ y
  below : Below w0.heap.size w0 w
section
variable {w0 w w' : World} {y g : Nat} {t s1 s2 : Bool} {v v1 v2 : Value}
theorem DTri.cy0 (h : DTri w0 w y g t v s1 v1 s2 v2) : w.cell? ⟨y, 0, none⟩ = some (.bool t) := by simp [World.cell?, h.by_]
theorem DTri.cy1 (h : DTri w0 w y g t v s1 v1 s2 v2) : w.cell? ⟨y, 1, none⟩ = some v := by simp [World.cell?, h.by_]
theorem DTri.cq0 (h : DTri w0 w y g t v s1 v1 s2 v2) : w.cell? ⟨g, 0, none⟩ = some (.bool s1) := by simp [World.cell?, h.bq]
theorem DTri.cq1 (h : DTri w0 w y g t v s1 v1 s2 v2) : w.cell? ⟨g, 1, none⟩ = some v1 := by simp [World.cell?, h.bq]
theorem DTri.cr0 (h : DTri w0 w y g t v s1 v1 s2 v2) : w.cell? ⟨g + 1, 0, none⟩ = some (.bool s2) := by simp [World.cell?, h.br]
theorem DTri.cr1 (h : DTri w0 w y g t v s1 v1 s2 v2) : w.cell? ⟨g + 1, 1, none⟩ = some v2 := by simp [World.cell?, h.br]
theorem DTri.fq (h : DTri w0 w y g t v s1 v1 s2 v2) (i : Nat) : w.frozen? ⟨g, i, none⟩ = false := by simp [World.frozen?, h.bq]
theorem DTri.fr (h : DTri w0 w y g t v s1 v1 s2 v2) (i : Nat) : w.frozen? ⟨g + 1, i, none⟩ = false := by simp [World.frozen?, h.br]
theorem DTri.op (h : DTri w0 w y g t v s1 v1 s2 v2) (hb : Below w.heap.size w w') : DTri w0 w' y g t v s1 v1 s2 v2 := by
  have h1 := lt_of_block h.br
  have := h.yg
  have := h.wy
  exact ⟨(hb.block _ (by omega)).trans h.by_, (hb.block _ (by omega)).trans h.bq, (hb.block _ (by omega)).trans h.br, h.yg, h.wy, h.below.trans (hb.mono (by omega))⟩
theorem DTri.drew (h : DTri w0 w y g t v s1 v1 s2 v2) : DTri w0 w.drew y g t v s1 v1 s2 v2 := ⟨h.by_, h.bq, h.br, h.yg, h.wy, h.below.drew⟩
theorem DTri.putq (h : DTri w0 w y g t v s1 v1 s2 v2) (s : Bool) (u : Value) : DTri w0 (dres w g s u) y g t v s u s2 v2 := by
  have := h.yg
  have := h.wy
  refine ⟨?_, ?_, ?_, h.yg, h.wy, (h.below.setCell (by simp; omega) _).setCell (by simp; omega) _⟩
  · exact (Below.heap_setCell _ _ _ _ (by simp; omega)).trans ((Below.heap_setCell _ _ _ _ (by simp; omega)).trans h.by_)
  · simp [dres, World.setCell, Array.getElem?_modify, h.bq]
  · exact (Below.heap_setCell _ _ _ _ (by simp)).trans ((Below.heap_setCell _ _ _ _ (by simp)).trans h.br)
theorem DTri.putr (h : DTri w0 w y g t v s1 v1 s2 v2) (s : Bool) (u : Value) : DTri w0 (dres w (g + 1) s u) y g t v s1 v1 s u := by
  have := h.yg
  have := h.wy
  refine ⟨?_, ?_, ?_, h.yg, h.wy, (h.below.setCell (by simp; omega) _).setCell (by simp; omega) _⟩
  · exact (Below.heap_setCell _ _ _ _ (by simp; omega)).trans ((Below.heap_setCell _ _ _ _ (by simp; omega)).trans h.by_)
  · exact (Below.heap_setCell _ _ _ _ (by simp)).trans ((Below.heap_setCell _ _ _ _ (by simp)).trans h.bq)
  · simp [dres, World.setCell, Array.getElem?_modify, h.br]
end
theorem DBig.away {w : World} {r : Nat} {u : Value} {z : Int} (h : DBig w u z) (hr : ∃ (x : Bool) (A : Option Addr) (L c : Nat), w.heap[r]? = some (.cells #[.bool x, .slice A L c] 64 (0, 0))) (s : Bool) (v : Value) : DBig (dres w r s v) u z := by
  obtain ⟨x, rfl, hs⟩ := h.size_
  exact (hs.far hr s v).big
/-- Block g is a Big of z. -/
def DAt (w : World) (g : Nat) (z : Int) : Prop := ∃ (s : Bool) (A : Option Addr) (L c : Nat), w.heap[g]? = some (.cells #[.bool s, .slice A L c] 64 (0, 0)) ∧ DBig w (.agg #[.bool s, .slice A L c]) z
theorem DAt.below {w w' : World} {g : Nat} {z : Int} (h : DAt w g z) (hb : Below w.heap.size w w') : DAt w' g z := by
  obtain ⟨s, A, L, c, hc, hd⟩ := h
  exact ⟨s, A, L, c, (hb.block _ (lt_of_block hc)).trans hc, hd.below hb (Nat.le_refl _)⟩
theorem DAt.put {w : World} {g r : Nat} {z : Int} (h : DAt w g z) (hr : ∃ (x : Bool) (A : Option Addr) (L c : Nat), w.heap[r]? = some (.cells #[.bool x, .slice A L c] 64 (0, 0))) (hne : r ≠ g) (s : Bool) (v : Value) : DAt (dres w r s v) g z := by
  obtain ⟨s', A, L, c, hc, hd⟩ := h
  exact ⟨s', A, L, c, (Below.heap_setCell _ _ _ _ (by simp; omega)).trans ((Below.heap_setCell _ _ _ _ (by simp; omega)).trans hc), hd.away hr s v⟩
theorem DAt.new {w : World} {r : Nat} {z : Int} (hr : ∃ (x : Bool) (A : Option Addr) (L c : Nat), w.heap[r]? = some (.cells #[.bool x, .slice A L c] 64 (0, 0))) {s : Bool} {A : Option Addr} {L c : Nat} (h : DBig w (.agg #[.bool s, .slice A L c]) z) : DAt (dres w r s (.slice A L c)) r z := by
  refine ⟨s, A, L, c, ?_, h.away hr _ _⟩
  obtain ⟨x, A', L', c', hr⟩ := hr
  simp [dres, World.setCell, Array.getElem?_modify, hr]
/-- What every step of the region keeps. -/
structure DKeep (g : Nat) (zq zr : Int) (w w' : World) : Prop where
  big : ∀ {u : Value} {z : Int}, DBig w u z → DBig w' u z
  atq : DAt w g zq → DAt w' g zq
  atr : DAt w (g + 1) zr → DAt w' (g + 1) zr
theorem DKeep.below {g : Nat} {zq zr : Int} {w w' : World} (hb : Below w.heap.size w w') : DKeep g zq zr w w' := ⟨fun h => h.below hb (Nat.le_refl _), fun h => h.below hb, fun h => h.below hb⟩
theorem DKeep.same {g : Nat} {zq zr : Int} {w : World} : DKeep g zq zr w w := ⟨fun h => h, fun h => h, fun h => h⟩
/-- The world within the region that corrects: quotient and rest as they were, until they are stored. -/
def DHold (w0 : World) (y g : Nat) (t : Bool) (v : Value) (s1 : Bool) (v1 : Value) (s2 : Bool) (v2 : Value) (z1 z2 z3 : Int) (DD : List Nat) (w : World) : Prop :=
  (∃ (r1 : Bool) (A1 : Option Addr) (L1 c1 : Nat) (r2 : Bool) (A2 : Option Addr) (L2 c2 : Nat), DTri w0 w y g t v r1 (.slice A1 L1 c1) r2 (.slice A2 L2 c2) ∧ (6 ∉ DD → r1 = s1 ∧ .slice A1 L1 c1 = v1) ∧ (7 ∉ DD → r2 = s2 ∧ .slice A2 L2 c2 = v2)) ∧
  DBig w (.agg #[.bool s1, v1]) z1 ∧ DBig w (.agg #[.bool s2, v2]) z2 ∧ DBig w (.agg #[.bool t, v]) z3
section
variable {w0 w w' : World} {y g : Nat} {t s1 s2 : Bool} {v v1 v2 : Value} {z1 z2 z3 : Int} {DD : List Nat}
theorem DHold.same (h : DHold w0 y g t v s1 v1 s2 v2 z1 z2 z3 DD w) (i : Nat) : DHold w0 y g t v s1 v1 s2 v2 z1 z2 z3 (DD ++ [i]) w := by
  obtain ⟨⟨r1, A1, L1, c1, r2, A2, L2, c2, hd, h6, h7⟩, hb⟩ := h
  exact ⟨⟨r1, A1, L1, c1, r2, A2, L2, c2, hd, fun h => h6 fun hm => h (List.mem_append_left _ hm), fun h => h7 fun hm => h (List.mem_append_left _ hm)⟩, hb⟩
theorem DHold.grow (h : DHold w0 y g t v s1 v1 s2 v2 z1 z2 z3 DD w) (hb : Below w.heap.size w w') (i : Nat) : DHold w0 y g t v s1 v1 s2 v2 z1 z2 z3 (DD ++ [i]) w' := by
  obtain ⟨⟨r1, A1, L1, c1, r2, A2, L2, c2, hd, h6, h7⟩, b1, b2, b3⟩ := h
  exact ⟨⟨r1, A1, L1, c1, r2, A2, L2, c2, hd.op hb, fun h => h6 fun hm => h (List.mem_append_left _ hm), fun h => h7 fun hm => h (List.mem_append_left _ hm)⟩, b1.below hb (Nat.le_refl _), b2.below hb (Nat.le_refl _), b3.below hb (Nat.le_refl _)⟩
theorem DHold.bq (h : DHold w0 y g t v s1 v1 s2 v2 z1 z2 z3 DD w) : ∃ (x : Bool) (A : Option Addr) (L c : Nat), w.heap[g]? = some (.cells #[.bool x, .slice A L c] 64 (0, 0)) := by
  obtain ⟨⟨r1, A1, L1, c1, r2, A2, L2, c2, hd, _⟩, _⟩ := h
  exact ⟨_, _, _, _, hd.bq⟩
theorem DHold.br (h : DHold w0 y g t v s1 v1 s2 v2 z1 z2 z3 DD w) : ∃ (x : Bool) (A : Option Addr) (L c : Nat), w.heap[g + 1]? = some (.cells #[.bool x, .slice A L c] 64 (0, 0)) := by
  obtain ⟨⟨r1, A1, L1, c1, r2, A2, L2, c2, hd, _⟩, _⟩ := h
  exact ⟨_, _, _, _, hd.br⟩
theorem DHold.putq (h : DHold w0 y g t v s1 v1 s2 v2 z1 z2 z3 DD w) (s : Bool) (A : Option Addr) (L c : Nat) : DHold w0 y g t v s1 v1 s2 v2 z1 z2 z3 (DD ++ [6]) (dres w g s (.slice A L c)) := by
  have hq := h.bq
  obtain ⟨⟨r1, A1, L1, c1, r2, A2, L2, c2, hd, h6, h7⟩, b1, b2, b3⟩ := h
  exact ⟨⟨s, A, L, c, r2, A2, L2, c2, hd.putq s (.slice A L c), fun h => absurd (List.mem_append_right _ (List.mem_singleton.2 rfl)) h, fun h => h7 fun hm => h (List.mem_append_left _ hm)⟩, b1.away hq _ _, b2.away hq _ _, b3.away hq _ _⟩
theorem DHold.putr (h : DHold w0 y g t v s1 v1 s2 v2 z1 z2 z3 DD w) (s : Bool) (A : Option Addr) (L c : Nat) : DHold w0 y g t v s1 v1 s2 v2 z1 z2 z3 (DD ++ [7]) (dres w (g + 1) s (.slice A L c)) := by
  have hq := h.br
  obtain ⟨⟨r1, A1, L1, c1, r2, A2, L2, c2, hd, h6, h7⟩, b1, b2, b3⟩ := h
  exact ⟨⟨r1, A1, L1, c1, s, A, L, c, hd.putr s (.slice A L c), fun h => h6 fun hm => h (List.mem_append_left _ hm), fun h => absurd (List.mem_append_right _ (List.mem_singleton.2 rfl)) h⟩, b1.away hq _ _, b2.away hq _ _, b3.away hq _ _⟩
theorem DHold.q (h : DHold w0 y g t v s1 v1 s2 v2 z1 z2 z3 DD w) (hn : 6 ∉ DD) : w.cell? ⟨g, 0, none⟩ = some (.bool s1) ∧ w.cell? ⟨g, 1, none⟩ = some v1 := by
  obtain ⟨⟨r1, A1, L1, c1, r2, A2, L2, c2, hd, h6, h7⟩, _⟩ := h
  obtain ⟨rfl, rfl⟩ := h6 hn
  exact ⟨hd.cq0, hd.cq1⟩
theorem DHold.r (h : DHold w0 y g t v s1 v1 s2 v2 z1 z2 z3 DD w) (hn : 7 ∉ DD) : w.cell? ⟨g + 1, 0, none⟩ = some (.bool s2) ∧ w.cell? ⟨g + 1, 1, none⟩ = some v2 := by
  obtain ⟨⟨r1, A1, L1, c1, r2, A2, L2, c2, hd, h6, h7⟩, _⟩ := h
  obtain ⟨rfl, rfl⟩ := h7 hn
  exact ⟨hd.cr0, hd.cr1⟩
theorem DHold.dv (h : DHold w0 y g t v s1 v1 s2 v2 z1 z2 z3 DD w) : w.cell? ⟨y, 0, none⟩ = some (.bool t) ∧ w.cell? ⟨y, 1, none⟩ = some v := by
  obtain ⟨⟨r1, A1, L1, c1, r2, A2, L2, c2, hd, h6, h7⟩, _⟩ := h
  exact ⟨hd.cy0, hd.cy1⟩
theorem DHold.cells (h : DHold w0 y g t v s1 v1 s2 v2 z1 z2 z3 DD w) : ∃ u0 u1 u2 u3, w.cell? ⟨g, 0, none⟩ = some u0 ∧ w.cell? ⟨g, 1, none⟩ = some u1 ∧ w.cell? ⟨g + 1, 0, none⟩ = some u2 ∧ w.cell? ⟨g + 1, 1, none⟩ = some u3 ∧
    w.frozen? ⟨g, 0, none⟩ = false ∧ w.frozen? ⟨g, 1, none⟩ = false ∧ w.frozen? ⟨g + 1, 0, none⟩ = false ∧ w.frozen? ⟨g + 1, 1, none⟩ = false := by
  obtain ⟨⟨r1, A1, L1, c1, r2, A2, L2, c2, hd, h6, h7⟩, _⟩ := h
  exact ⟨_, _, _, _, hd.cq0, hd.cq1, hd.cr0, hd.cr1, hd.fq 0, hd.fq 1, hd.fr 0, hd.fr 1⟩
theorem DHold.end_ {zq zr : Int} (h : DHold w0 y g t v s1 v1 s2 v2 z1 z2 z3 DD w) (hq : DAt w g zq) (hr : DAt w (g + 1) zr) : ∃ (r1 : Bool) (A1 : Option Addr) (L1 c1 : Nat) (r2 : Bool) (A2 : Option Addr) (L2 c2 : Nat),
    DTri w0 w y g t v r1 (.slice A1 L1 c1) r2 (.slice A2 L2 c2) ∧ DBig w (.agg #[.bool r1, .slice A1 L1 c1]) zq ∧ DBig w (.agg #[.bool r2, .slice A2 L2 c2]) zr := by
  obtain ⟨⟨r1, A1, L1, c1, r2, A2, L2, c2, hd, h6, h7⟩, _⟩ := h
  obtain ⟨s, A, L, c, hc, hb⟩ := hq
  obtain ⟨s', A', L', c', hc', hb'⟩ := hr
  have e1 := hd.bq.symm.trans hc
  have e2 := hd.br.symm.trans hc'
  simp at e1 e2
  obtain ⟨rfl, rfl, rfl, rfl⟩ := e1
  obtain ⟨rfl, rfl, rfl, rfl⟩ := e2
  exact ⟨_, _, _, _, _, _, _, _, hd, hb, hb'⟩
end
/-- The quotient that leaves no negative rest, out of the one towards 0. -/
theorem euclid {p q : Int} (hq : q ≠ 0) : (¬ p.tmod q < 0 → p / q = p.tdiv q ∧ p % q = p.tmod q) ∧ (p.tmod q < 0 → q < 0 → p / q = p.tdiv q + 1 ∧ p % q = p.tmod q - q) ∧ (p.tmod q < 0 → ¬ q < 0 → p / q = p.tdiv q - 1 ∧ p % q = p.tmod q + q) := by
  have e1 := Int.mul_tdiv_add_tmod p q
  have habs : (p.tmod q).natAbs < q.natAbs := by rw [Int.natAbs_tmod]; exact Nat.mod_lt _ (by omega)
  have key : ∀ d r : Int, q * d + r = p → 0 ≤ r → r < q.natAbs → p / q = d ∧ p % q = r := by
    intro d r h1 h2 h3
    have hr : p % q = r := by
      rw [← h1, Int.add_comm, Int.add_mul_emod_self_left]
      rcases Int.natAbs_eq q with h | h
      · exact Int.emod_eq_of_lt h2 (by omega)
      · rw [h, Int.emod_neg]; exact Int.emod_eq_of_lt h2 (by omega)
    refine ⟨?_, hr⟩
    have e2 := Int.mul_ediv_add_emod p q
    rw [hr] at e2
    exact Int.eq_of_mul_eq_mul_left hq (by omega)
  refine ⟨fun h => key _ _ e1 (by omega) (by omega), fun h1 h2 => key _ _ (by rw [Int.mul_add, Int.mul_one]; omega) (by omega) (by omega), fun h1 h2 => key _ _ (by rw [Int.mul_sub, Int.mul_one]; omega) (by omega) (by omega)⟩

theorem ndig_mono {a b : Nat} (h : a ≤ b) : Lib.nDigits a ≤ Lib.nDigits b := by
  obtain ⟨k, hk⟩ : ∃ k, Lib.nDigits b = k + 1 := ⟨Lib.nDigits b - 1, by have := Lib.nDigits_pos b; omega⟩
  have h1 := Lib.lt_pow_nDigits b
  rw [hk] at h1 ⊢
  exact D.nDig_le (Nat.lt_of_le_of_lt h h1)
theorem eucl_small {p q : Int} (hq : q ≠ 0) : (p / q).natAbs ≤ p.natAbs ∧ (p % q).natAbs ≤ q.natAbs := by
  refine ⟨Int.natAbs_ediv_le_natAbs p q, ?_⟩
  have h1 := Int.emod_nonneg p hq
  rcases Int.natAbs_eq q with h | h
  · have := Int.emod_lt_of_pos p (show 0 < q by omega)
    omega
  · have h2 := Int.emod_lt_of_pos p (show 0 < -q by omega)
    rw [Int.emod_neg] at h2
    omega
theorem dof_one {w : World} : Calls Tryz.prog 55 #[.int .i64 1] w fun e w' => ∃ s, e = .returned (.agg #[.bool false, s]) ∧ DSz w' s 1 ∧ Below w.heap.size w w' := by
  refine (rof_any 1 (by decide) (by decide)).mono ?_
  rintro e w' ⟨s, rfl, hs, hb⟩
  exact ⟨s, rfl, hs, hb⟩
set_option linter.unusedSimpArgs false in
set_option maxHeartbeats 16000000 in
set_option maxRecDepth 100000 in
theorem rdiv_ok {w : World} (s t : ByteArray) {p q : Int} (hs : s.data.toList = Lib.itoa p) (ht : t.data.toList = Lib.itoa q) (hp : Lib.nDigits p.natAbs ≤ 400) (hq : Lib.nDigits q.natAbs ≤ 400) (hq0 : q ≠ 0) :
    Calls Tryz.prog 85 #[.string s, .string t] w fun e w' => e = .returned (.tuple #[.string ⟨(Lib.itoa (p / q)).toArray⟩, .string ⟨(Lib.itoa (p % q)).toArray⟩, .int .i64 0]) ∧ Below w.heap.size w w' := by
  have hP := lt_dten _ hp
  have hQ := lt_dten _ hq
  have hsm := eucl_small (p := p) hq0
  have hd1 : Lib.nDigits (p / q).natAbs ≤ 400 := Nat.le_trans (ndig_mono hsm.1) hp
  have hd2 : Lib.nDigits (p % q).natAbs ≤ 400 := Nat.le_trans (ndig_mono hsm.2) hq
  have hg1 : give (p / q) = .tuple #[.string ⟨(Lib.itoa (p / q)).toArray⟩, .int .i64 0] := if_pos hd1
  have hg2 : give (p % q) = .tuple #[.string ⟨(Lib.itoa (p % q)).toArray⟩, .int .i64 0] := if_pos hd2
  have hR1 := lt_dten _ hd1
  have hR2 := lt_dten _ hd2
  have hT1 : (p.tdiv q).natAbs < D.B ^ 46 := by
    rw [Int.natAbs_tdiv]
    exact Nat.lt_of_le_of_lt (Nat.div_le_self _ _) (Nat.lt_of_lt_of_le hP (D.pow_mono (by omega)))
  have hT2 : (p.tmod q).natAbs < D.B ^ 46 := by
    rw [Int.natAbs_tmod]
    exact Nat.lt_of_lt_of_le (Nat.lt_trans (Nat.mod_lt _ (by omega)) hQ) (D.pow_mono (by omega))
  have hQ6 : q.natAbs < D.B ^ 46 := Nat.lt_of_lt_of_le hQ (D.pow_mono (by omega))
  have h16 : (1 : Int).natAbs < D.B ^ 46 := Nat.lt_of_lt_of_le D.B_one (by have := D.pow_mono (show 1 ≤ 46 by omega); rwa [Nat.pow_one] at this)
  have heu := euclid (p := p) hq0
  obtain ⟨a, ha⟩ : ∃ a, a = decide (p < 0) := ⟨_, rfl⟩
  obtain ⟨b, hb⟩ : ∃ b, b = decide (q < 0) := ⟨_, rfl⟩
  obtain ⟨sq, hsq⟩ : ∃ sq, sq = decide (p.tdiv q < 0) := ⟨_, rfl⟩
  obtain ⟨sr, hsr⟩ : ∃ sr, sr = decide (p.tmod q < 0) := ⟨_, rfl⟩
  have H := Lib.hid (And.intro hs (And.intro ht (And.intro hp (And.intro hq (And.intro hP (And.intro hQ (And.intro ha (And.intro hb (And.intro hq0 heu)))))))))
  have HG := Lib.hid (And.intro hg1 (And.intro hg2 (And.intro hR1 (And.intro hR2 (And.intro hT1 (And.intro hT2 (And.intro hQ6 (And.intro h16 (And.intro hsq hsr)))))))))
  clear hs ht hp hq hP hQ ha hb hq0 heu hsm hd1 hd2 hg1 hg2 hR1 hR2 hT1 hT2 hQ6 h16 hsq hsr
  go_enter Tryz.func85, Tryz.ntmps85
  go_wp2_with fail
  refine (both_ok s t H.out.1 H.out.2.1 H.out.2.2.1 H.out.2.2.2.1).mono ?_
  rw [← H.out.2.2.2.2.2.2.1, ← H.out.2.2.2.2.2.2.2.1]
  rintro e w1 ⟨u, v, rfl, ⟨A1, L1, c1, rfl, hu⟩, hv, hb1⟩
  obtain ⟨A2, L2, c2, rfl, hl2, hm2, hc2, hcm2, hL2⟩ := hv.open_ H.out.2.2.2.2.2.1
  have hLp : 0 < L2 := by
    have := dlen_zero hm2 hl2.1
    have := H.out.2.2.2.2.2.2.2.2.1
    omega
  have hbx := boxed H.out.2.2.2.2.2.2.1 H.out.2.2.2.2.2.2.2.1 ⟨A1, L1, c1, rfl, hu⟩ hv hb1
  have hy : ((w1.alloc (.cells #[.bool a, .slice A1 L1 c1] 64)).alloc (.cells #[.bool b, .slice A2 L2 c2] 64)).heap[w1.heap.size + 1]? = some (.cells #[.bool b, .slice A2 L2 c2] 64 (0, 0)) := by
    have h9 := heap_alloc_new (w1.alloc (.cells #[.bool a, .slice A1 L1 c1] 64)) (.cells #[.bool b, .slice A2 L2 c2] 64)
    simpa using h9
  have H1 := Lib.hid (And.intro hbx (And.intro hy hb1.size))
  clear hu hv hb1 hbx hy hl2 hm2
  go_wp2_with fail
  refine (rquo_any H1.out.1.1 H1.out.1.2.1 H.out.2.2.2.2.2.2.2.2.1 H.out.2.2.2.2.1 H.out.2.2.2.2.2.1 (by omega)).mono ?_
  rw [← HG.out.2.2.2.2.2.2.2.2.1, ← HG.out.2.2.2.2.2.2.2.2.2]
  rintro e w2 ⟨qv, rv, rfl, ⟨A3, L3, c3, rfl, hs3⟩, ⟨A4, L4, c4, rfl, hs4⟩, hb2⟩
  have hq3 : DSz w2 (.slice A3 L3 c3) (p.tdiv q).natAbs := ⟨A3, L3, c3, rfl, hs3⟩
  have hr4 : DSz w2 (.slice A4 L4 c4) (p.tmod q).natAbs := ⟨A4, L4, c4, rfl, hs4⟩
  have hyq : w1.heap.size + 1 < w2.heap.size := by have h8 := lt_of_block H1.out.2.1; exact Nat.lt_of_lt_of_le h8 hb2.size
  have hB2 := H1.out.1.2.2.trans (hb2.mono H1.out.1.2.2.size)
  have hd3 : DTri w ((w2.alloc (.cells #[.bool sq, .slice A3 L3 c3] 64)).alloc (.cells #[.bool sr, .slice A4 L4 c4] 64)) (w1.heap.size + 1) w2.heap.size b (.slice A2 L2 c2) sq (.slice A3 L3 c3) sr (.slice A4 L4 c4) := by
    have e1 := heap_alloc_new w2 (.cells #[.bool sq, .slice A3 L3 c3] 64)
    have e2 := heap_alloc_new (w2.alloc (.cells #[.bool sq, .slice A3 L3 c3] 64)) (.cells #[.bool sr, .slice A4 L4 c4] 64)
    have hA := ((Below.refl w2.heap.size w2).alloc (Nat.le_refl _) (.cells #[.bool sq, .slice A3 L3 c3] 64)).alloc (by simp) (.cells #[.bool sr, .slice A4 L4 c4] 64)
    refine ⟨?_, ?_, by simpa using e2, hyq, by have := H1.out.2.2; omega, hB2.trans (hA.mono hB2.size)⟩
    · exact (hA.block _ hyq).trans ((hb2.block _ (lt_of_block H1.out.2.1)).trans H1.out.2.1)
    · exact (Below.heap_alloc _ _ _ (by simp)).trans e1
  have hq5 : DBig w2 (.agg #[.bool sq, .slice A3 L3 c3]) (p.tdiv q) := by rw [HG.out.2.2.2.2.2.2.2.2.1]; exact hq3.big
  have hr5 : DBig w2 (.agg #[.bool sr, .slice A4 L4 c4]) (p.tmod q) := by rw [HG.out.2.2.2.2.2.2.2.2.2]; exact hr4.big
  have H3 := Lib.hid (And.intro hd3 (And.intro ((hq5.alloc (.cells #[.bool sq, .slice A3 L3 c3] 64)).alloc (.cells #[.bool sr, .slice A4 L4 c4] 64)) (And.intro ((hr5.alloc (.cells #[.bool sq, .slice A3 L3 c3] 64)).alloc (.cells #[.bool sr, .slice A4 L4 c4] 64)) ((((H1.out.1.2.1.below hb2 (Nat.le_refl _)).alloc (.cells #[.bool sq, .slice A3 L3 c3] 64)).alloc (.cells #[.bool sr, .slice A4 L4 c4] 64))))))
  have hcy := hd3.cy0
  clear hd3 hq3 hr4 hq5 hr5 hs3 hs4 hB2 hb2 H1
  obtain ⟨y, hy⟩ : ∃ y, y = w1.heap.size + 1 := ⟨_, rfl⟩
  rw [← hy] at H3 hyq hcy ⊢
  clear hy
  cases sr
  focus
    go_wp2_with fail
    have hnn : ¬ p.tmod q < 0 := of_decide_eq_false HG.out.2.2.2.2.2.2.2.2.2.symm
    have heq := H.out.2.2.2.2.2.2.2.2.2.1 (by omega)
    have HT := Lib.hid (show DTri w ((w2.alloc (.cells #[.bool sq, .slice A3 L3 c3] 64)).alloc (.cells #[.bool false, .slice A4 L4 c4] 64)) y w2.heap.size b (.slice A2 L2 c2) sq (.slice A3 L3 c3) false (.slice A4 L4 c4) ∧ DBig ((w2.alloc (.cells #[.bool sq, .slice A3 L3 c3] 64)).alloc (.cells #[.bool false, .slice A4 L4 c4] 64)) (.agg #[.bool sq, .slice A3 L3 c3]) (p / q) ∧ DBig ((w2.alloc (.cells #[.bool sq, .slice A3 L3 c3] 64)).alloc (.cells #[.bool false, .slice A4 L4 c4] 64)) (.agg #[.bool false, .slice A4 L4 c4]) (p % q) by
      rw [heq.1, heq.2]; exact ⟨H3.out.1, H3.out.2.1, H3.out.2.2.1⟩)
    clear H3 hnn heq hcy
    generalize (w2.alloc (.cells #[.bool sq, .slice A3 L3 c3] 64)).alloc (.cells #[.bool false, .slice A4 L4 c4] 64) = Wx at *
    refine (rgive_any (k := 45) HT.out.2.1 HG.out.2.2.1 (by omega)).mono ?_
    rw [HG.out.1]
    rintro e w8 ⟨rfl, hb8⟩
    have n2 := (HT.out.1.op hb8).cr0
    have n3 := (HT.out.1.op hb8).cr1
    have H8 := Lib.hid (And.intro (HT.out.2.2.below hb8 (Nat.le_refl _)) (HT.out.1.op hb8).below)
    clear HT hb8
    go_wp2_with fail
    refine (rgive_any (k := 45) H8.out.1 HG.out.2.2.2.1 (by omega)).mono ?_
    rw [HG.out.2.1]
    rintro e w9 ⟨rfl, hb9⟩
    have H9 := Lib.hid (H8.out.2.trans (hb9.mono H8.out.2.size))
    clear H8 hb9 n2 n3
    go_wp2
    go_ret3
    exact ⟨rfl, H9.out⟩
  have htm : p.tmod q < 0 := of_decide_eq_true HG.out.2.2.2.2.2.2.2.2.2.symm
  cases b
  focus
    have hqs : ¬ q < 0 := of_decide_eq_false H.out.2.2.2.2.2.2.2.1.symm
    have heq := H.out.2.2.2.2.2.2.2.2.2.2.2 (by omega) (by omega)
    have HE := Lib.hid heq
    clear heq hqs
    go_wp2_with fail
    generalize hWg : (w2.alloc (.cells #[.bool sq, .slice A3 L3 c3] 64)).alloc (.cells #[.bool true, .slice A4 L4 c4] 64) = Wy at *
    clear hWg
    refine Rel.region_full 8 [0, 1, 2, 3, 4, 5, 6, 7] (R := [fun v _ => v = .agg #[.bool sq, .slice A3 L3 c3], fun v w => DBig w v 1, fun v w => DBig w v (p / q), fun v _ => v = .agg #[.bool true, .slice A4 L4 c4], fun v _ => v = .agg #[.bool false, .slice A2 L2 c2], fun v w => DBig w v (p % q), fun _ w => DAt w w2.heap.size (p / q), fun _ w => DAt w (w2.heap.size + 1) (p % q)])
      (E := DHold w y w2.heap.size false (.slice A2 L2 c2) sq (.slice A3 L3 c3) true (.slice A4 L4 c4) (p.tdiv q) (p.tmod q) q) (T := DKeep w2.heap.size (p / q) (p % q)) rfl rfl (by kernel_rfl) (by kernel_rfl)
      ⟨⟨_, _, _, _, _, _, _, _, H3.out.1.drew, fun _ => ⟨rfl, rfl⟩, fun _ => ⟨rfl, rfl⟩⟩, H3.out.2.1.drew, H3.out.2.2.1.drew, H3.out.2.2.2.drew⟩ ?_ ?_ ?_
    · intro DD i v w1 w2 hi hE hT hv
      match i, hi with
      | 6, _ => exact hT.atq hv
      | 7, _ => exact hT.atr hv
      | 1, _ | 2, _ | 5, _ => exact hT.big hv
      | 0, _ | 3, _ | 4, _ => exact hv
      | i + 8, hi => exact absurd hi (by omega)
    · refine Rel.Steps.cons (L := []) rfl (by kernel_rfl) ?_ ?_
      · intro vals w' DD hE hF hR K hK
        obtain ⟨d0, d1⟩ := hE.q (hF.not (j := 6) (by kernel_rfl))
        simp only [Rel.putL, Rel.dst, List.getElem?_toArray, List.getElem?_cons_zero, List.getElem?_cons_succ, Option.bind_some, Act.put, List.setIfInBounds_toArray, List.set_cons_zero, List.set_cons_succ] at hK ⊢
        go_simp
        exact hK _ _ rfl DKeep.same (hE.same 0)
      refine Rel.Steps.cons (L := []) rfl (by kernel_rfl) ?_ ?_
      · intro vals w' DD hE hF hR K hK
        simp only [Rel.putL, Rel.dst, List.getElem?_toArray, List.getElem?_cons_zero, List.getElem?_cons_succ, Option.bind_some, Act.put, List.setIfInBounds_toArray, List.set_cons_zero, List.set_cons_succ] at hK ⊢
        go_simp
        go_at_call 55
        refine dof_one.mono ?_
        rintro e w2 ⟨ov, rfl, ho, hb⟩
        exact hK _ _ (show DBig w2 (.agg #[.bool false, ov]) 1 from DSz.big (z := 1) ho) (DKeep.below hb) (hE.grow hb 1)
      refine Rel.Steps.cons (L := [0, 1]) rfl (by kernel_rfl) ?_ ?_
      · intro vals w' DD hE hF hR K hK
        have d0 : vals 0 = (.agg #[.bool sq, .slice A3 L3 c3]) := hR.1
        have r1 := hR.2.1
        simp only [Rel.putL, Rel.dst, List.getElem?_toArray, List.getElem?_cons_zero, List.getElem?_cons_succ, Option.bind_some, Act.put, List.setIfInBounds_toArray, List.set_cons_zero, List.set_cons_succ, d0] at hK ⊢
        go_simp
        go_at_call 127
        refine (rsub_any (k := 46) hE.2.1 r1 HG.out.2.2.2.2.1 HG.out.2.2.2.2.2.2.2.1 (by omega)).mono ?_
        rintro e w2 ⟨v, rfl, hv, hb⟩
        rw [← HE.out.1] at hv
        exact hK _ _ hv (DKeep.below hb) (hE.grow hb 2)
      refine Rel.Steps.cons (L := []) rfl (by kernel_rfl) ?_ ?_
      · intro vals w' DD hE hF hR K hK
        obtain ⟨e0, e1⟩ := hE.r (hF.not (j := 7) (by kernel_rfl))
        simp only [Rel.putL, Rel.dst, List.getElem?_toArray, List.getElem?_cons_zero, List.getElem?_cons_succ, Option.bind_some, Act.put, List.setIfInBounds_toArray, List.set_cons_zero, List.set_cons_succ] at hK ⊢
        go_simp
        exact hK _ _ rfl DKeep.same (hE.same 3)
      refine Rel.Steps.cons (L := []) rfl (by kernel_rfl) ?_ ?_
      · intro vals w' DD hE hF hR K hK
        obtain ⟨b0, b1⟩ := hE.dv
        simp only [Rel.putL, Rel.dst, List.getElem?_toArray, List.getElem?_cons_zero, List.getElem?_cons_succ, Option.bind_some, Act.put, List.setIfInBounds_toArray, List.set_cons_zero, List.set_cons_succ] at hK ⊢
        go_simp
        exact hK _ _ rfl DKeep.same (hE.same 4)
      refine Rel.Steps.cons (L := [3, 4]) rfl (by kernel_rfl) ?_ ?_
      · intro vals w' DD hE hF hR K hK
        have d3 : vals 3 = (.agg #[.bool true, .slice A4 L4 c4]) := hR.1
        have d4 : vals 4 = (.agg #[.bool false, .slice A2 L2 c2]) := hR.2.1
        simp only [Rel.putL, Rel.dst, List.getElem?_toArray, List.getElem?_cons_zero, List.getElem?_cons_succ, Option.bind_some, Act.put, List.setIfInBounds_toArray, List.set_cons_zero, List.set_cons_succ, d3, d4] at hK ⊢
        go_simp
        go_at_call 69
        refine (radd_any (k := 46) hE.2.2.1 hE.2.2.2 HG.out.2.2.2.2.2.1 HG.out.2.2.2.2.2.2.1 (by omega)).mono ?_
        rintro e w2 ⟨v, rfl, hv, hb⟩
        rw [← HE.out.2] at hv
        exact hK _ _ hv (DKeep.below hb) (hE.grow hb 5)
      refine Rel.Steps.cons (L := [2]) rfl (by kernel_rfl) ?_ ?_
      · intro vals w' DD hE hF hR K hK
        have r2 : DBig w' (vals 2) (p / q) := hR.1
        have r2' := r2
        obtain ⟨X2, l2, k2, u2, _⟩ := r2
        obtain ⟨s2, hs2⟩ : ∃ s2, s2 = decide (p / q < 0) := ⟨_, rfl⟩
        rw [← hs2] at u2
        rw [u2] at r2'
        obtain ⟨v0, v1, v2, v3, c0, c1, c2, c3, f0, f1, f2, f3⟩ := hE.cells
        have HE6 := Lib.hid (And.intro hE r2')
        clear hE r2' hs2
        simp only [Rel.putL, Rel.dst, List.getElem?_toArray, List.getElem?_cons_zero, List.getElem?_cons_succ, Option.bind_some, Act.put, List.setIfInBounds_toArray, List.set_cons_zero, List.set_cons_succ, u2] at hK ⊢
        go_simp
        exact hK undef (dres w' w2.heap.size s2 (.slice X2 l2 k2)) (DAt.new HE6.out.1.bq HE6.out.2) ⟨fun h => h.away HE6.out.1.bq _ _, fun _ => DAt.new HE6.out.1.bq HE6.out.2, fun h => h.put HE6.out.1.bq (by omega) _ _⟩ (HE6.out.1.putq s2 X2 l2 k2)
      refine Rel.Steps.cons (L := [5]) rfl (by kernel_rfl) ?_ ?_
      · intro vals w' DD hE hF hR K hK
        have r2 : DBig w' (vals 5) (p % q) := hR.1
        have r2' := r2
        obtain ⟨X2, l2, k2, u2, _⟩ := r2
        obtain ⟨s2, hs2⟩ : ∃ s2, s2 = decide (p % q < 0) := ⟨_, rfl⟩
        rw [← hs2] at u2
        rw [u2] at r2'
        obtain ⟨v0, v1, v2, v3, c0, c1, c2, c3, f0, f1, f2, f3⟩ := hE.cells
        have HE6 := Lib.hid (And.intro hE r2')
        clear hE r2' hs2
        simp only [Rel.putL, Rel.dst, List.getElem?_toArray, List.getElem?_cons_zero, List.getElem?_cons_succ, Option.bind_some, Act.put, List.setIfInBounds_toArray, List.set_cons_zero, List.set_cons_succ, u2] at hK ⊢
        go_simp
        exact hK undef (dres w' (w2.heap.size + 1) s2 (.slice X2 l2 k2)) (DAt.new HE6.out.1.br HE6.out.2) ⟨fun h => h.away HE6.out.1.br _ _, fun h => h.put HE6.out.1.br (by omega) _ _, fun _ => DAt.new HE6.out.1.br HE6.out.2⟩ (HE6.out.1.putr s2 X2 l2 k2)
      exact Rel.Steps.done
    · intro vals Wx DD hD hE hR
      have r4 := Rel.AllR.mem.1 hR 6 (by simp)
      have r5 := Rel.AllR.mem.1 hR 7 (by simp)
      obtain ⟨s5, A5, L5, c5, s6, A6, L6, c6, ht, hqq, hrr⟩ := hE.end_ r4 r5
      simp only [Rel.putL, Rel.dst, List.getElem?_toArray, List.getElem?_cons_zero, List.getElem?_cons_succ, Option.bind_some, Act.put, List.setIfInBounds_toArray, List.set_cons_zero, List.set_cons_succ]
      clear hR hE r4 r5 hD
      have x0 := ht.cq0
      have x1 := ht.cq1
      have HT := Lib.hid (And.intro ht (And.intro hqq hrr))
      clear ht hqq hrr H3 HE
      go_wp2_with fail
      refine (rgive_any (k := 45) HT.out.2.1 HG.out.2.2.1 (by omega)).mono ?_
      rw [HG.out.1]
      rintro e w8 ⟨rfl, hb8⟩
      have n2 := (HT.out.1.op hb8).cr0
      have n3 := (HT.out.1.op hb8).cr1
      have H8 := Lib.hid (And.intro (HT.out.2.2.below hb8 (Nat.le_refl _)) (HT.out.1.op hb8).below)
      clear HT hb8 x0 x1
      go_wp2_with fail
      refine (rgive_any (k := 45) H8.out.1 HG.out.2.2.2.1 (by omega)).mono ?_
      rw [HG.out.2.1]
      rintro e w9 ⟨rfl, hb9⟩
      have H9 := Lib.hid (H8.out.2.trans (hb9.mono H8.out.2.size))
      clear H8 hb9 n2 n3
      go_wp2
      go_ret3
      exact ⟨rfl, H9.out⟩
  focus
    have hqs : q < 0 := of_decide_eq_true H.out.2.2.2.2.2.2.2.1.symm
    have heq := H.out.2.2.2.2.2.2.2.2.2.2.1 (by omega) (by omega)
    have HE := Lib.hid heq
    clear heq hqs
    go_wp2_with fail
    generalize hWg : (w2.alloc (.cells #[.bool sq, .slice A3 L3 c3] 64)).alloc (.cells #[.bool true, .slice A4 L4 c4] 64) = Wy at *
    clear hWg
    refine Rel.region_full 8 [0, 1, 2, 3, 4, 5, 6, 7] (R := [fun v _ => v = .agg #[.bool sq, .slice A3 L3 c3], fun v w => DBig w v 1, fun v w => DBig w v (p / q), fun v _ => v = .agg #[.bool true, .slice A4 L4 c4], fun v _ => v = .agg #[.bool true, .slice A2 L2 c2], fun v w => DBig w v (p % q), fun _ w => DAt w w2.heap.size (p / q), fun _ w => DAt w (w2.heap.size + 1) (p % q)])
      (E := DHold w y w2.heap.size true (.slice A2 L2 c2) sq (.slice A3 L3 c3) true (.slice A4 L4 c4) (p.tdiv q) (p.tmod q) q) (T := DKeep w2.heap.size (p / q) (p % q)) rfl rfl (by kernel_rfl) (by kernel_rfl)
      ⟨⟨_, _, _, _, _, _, _, _, H3.out.1.drew, fun _ => ⟨rfl, rfl⟩, fun _ => ⟨rfl, rfl⟩⟩, H3.out.2.1.drew, H3.out.2.2.1.drew, H3.out.2.2.2.drew⟩ ?_ ?_ ?_
    · intro DD i v w1 w2 hi hE hT hv
      match i, hi with
      | 6, _ => exact hT.atq hv
      | 7, _ => exact hT.atr hv
      | 1, _ | 2, _ | 5, _ => exact hT.big hv
      | 0, _ | 3, _ | 4, _ => exact hv
      | i + 8, hi => exact absurd hi (by omega)
    · refine Rel.Steps.cons (L := []) rfl (by kernel_rfl) ?_ ?_
      · intro vals w' DD hE hF hR K hK
        obtain ⟨d0, d1⟩ := hE.q (hF.not (j := 6) (by kernel_rfl))
        simp only [Rel.putL, Rel.dst, List.getElem?_toArray, List.getElem?_cons_zero, List.getElem?_cons_succ, Option.bind_some, Act.put, List.setIfInBounds_toArray, List.set_cons_zero, List.set_cons_succ] at hK ⊢
        go_simp
        exact hK _ _ rfl DKeep.same (hE.same 0)
      refine Rel.Steps.cons (L := []) rfl (by kernel_rfl) ?_ ?_
      · intro vals w' DD hE hF hR K hK
        simp only [Rel.putL, Rel.dst, List.getElem?_toArray, List.getElem?_cons_zero, List.getElem?_cons_succ, Option.bind_some, Act.put, List.setIfInBounds_toArray, List.set_cons_zero, List.set_cons_succ] at hK ⊢
        go_simp
        go_at_call 55
        refine dof_one.mono ?_
        rintro e w2 ⟨ov, rfl, ho, hb⟩
        exact hK _ _ (show DBig w2 (.agg #[.bool false, ov]) 1 from DSz.big (z := 1) ho) (DKeep.below hb) (hE.grow hb 1)
      refine Rel.Steps.cons (L := [0, 1]) rfl (by kernel_rfl) ?_ ?_
      · intro vals w' DD hE hF hR K hK
        have d0 : vals 0 = (.agg #[.bool sq, .slice A3 L3 c3]) := hR.1
        have r1 := hR.2.1
        simp only [Rel.putL, Rel.dst, List.getElem?_toArray, List.getElem?_cons_zero, List.getElem?_cons_succ, Option.bind_some, Act.put, List.setIfInBounds_toArray, List.set_cons_zero, List.set_cons_succ, d0] at hK ⊢
        go_simp
        go_at_call 69
        refine (radd_any (k := 46) hE.2.1 r1 HG.out.2.2.2.2.1 HG.out.2.2.2.2.2.2.2.1 (by omega)).mono ?_
        rintro e w2 ⟨v, rfl, hv, hb⟩
        rw [← HE.out.1] at hv
        exact hK _ _ hv (DKeep.below hb) (hE.grow hb 2)
      refine Rel.Steps.cons (L := []) rfl (by kernel_rfl) ?_ ?_
      · intro vals w' DD hE hF hR K hK
        obtain ⟨e0, e1⟩ := hE.r (hF.not (j := 7) (by kernel_rfl))
        simp only [Rel.putL, Rel.dst, List.getElem?_toArray, List.getElem?_cons_zero, List.getElem?_cons_succ, Option.bind_some, Act.put, List.setIfInBounds_toArray, List.set_cons_zero, List.set_cons_succ] at hK ⊢
        go_simp
        exact hK _ _ rfl DKeep.same (hE.same 3)
      refine Rel.Steps.cons (L := []) rfl (by kernel_rfl) ?_ ?_
      · intro vals w' DD hE hF hR K hK
        obtain ⟨b0, b1⟩ := hE.dv
        simp only [Rel.putL, Rel.dst, List.getElem?_toArray, List.getElem?_cons_zero, List.getElem?_cons_succ, Option.bind_some, Act.put, List.setIfInBounds_toArray, List.set_cons_zero, List.set_cons_succ] at hK ⊢
        go_simp
        exact hK _ _ rfl DKeep.same (hE.same 4)
      refine Rel.Steps.cons (L := [3, 4]) rfl (by kernel_rfl) ?_ ?_
      · intro vals w' DD hE hF hR K hK
        have d3 : vals 3 = (.agg #[.bool true, .slice A4 L4 c4]) := hR.1
        have d4 : vals 4 = (.agg #[.bool true, .slice A2 L2 c2]) := hR.2.1
        simp only [Rel.putL, Rel.dst, List.getElem?_toArray, List.getElem?_cons_zero, List.getElem?_cons_succ, Option.bind_some, Act.put, List.setIfInBounds_toArray, List.set_cons_zero, List.set_cons_succ, d3, d4] at hK ⊢
        go_simp
        go_at_call 127
        refine (rsub_any (k := 46) hE.2.2.1 hE.2.2.2 HG.out.2.2.2.2.2.1 HG.out.2.2.2.2.2.2.1 (by omega)).mono ?_
        rintro e w2 ⟨v, rfl, hv, hb⟩
        rw [← HE.out.2] at hv
        exact hK _ _ hv (DKeep.below hb) (hE.grow hb 5)
      refine Rel.Steps.cons (L := [2]) rfl (by kernel_rfl) ?_ ?_
      · intro vals w' DD hE hF hR K hK
        have r2 : DBig w' (vals 2) (p / q) := hR.1
        have r2' := r2
        obtain ⟨X2, l2, k2, u2, _⟩ := r2
        obtain ⟨s2, hs2⟩ : ∃ s2, s2 = decide (p / q < 0) := ⟨_, rfl⟩
        rw [← hs2] at u2
        rw [u2] at r2'
        obtain ⟨v0, v1, v2, v3, c0, c1, c2, c3, f0, f1, f2, f3⟩ := hE.cells
        have HE6 := Lib.hid (And.intro hE r2')
        clear hE r2' hs2
        simp only [Rel.putL, Rel.dst, List.getElem?_toArray, List.getElem?_cons_zero, List.getElem?_cons_succ, Option.bind_some, Act.put, List.setIfInBounds_toArray, List.set_cons_zero, List.set_cons_succ, u2] at hK ⊢
        go_simp
        exact hK undef (dres w' w2.heap.size s2 (.slice X2 l2 k2)) (DAt.new HE6.out.1.bq HE6.out.2) ⟨fun h => h.away HE6.out.1.bq _ _, fun _ => DAt.new HE6.out.1.bq HE6.out.2, fun h => h.put HE6.out.1.bq (by omega) _ _⟩ (HE6.out.1.putq s2 X2 l2 k2)
      refine Rel.Steps.cons (L := [5]) rfl (by kernel_rfl) ?_ ?_
      · intro vals w' DD hE hF hR K hK
        have r2 : DBig w' (vals 5) (p % q) := hR.1
        have r2' := r2
        obtain ⟨X2, l2, k2, u2, _⟩ := r2
        obtain ⟨s2, hs2⟩ : ∃ s2, s2 = decide (p % q < 0) := ⟨_, rfl⟩
        rw [← hs2] at u2
        rw [u2] at r2'
        obtain ⟨v0, v1, v2, v3, c0, c1, c2, c3, f0, f1, f2, f3⟩ := hE.cells
        have HE6 := Lib.hid (And.intro hE r2')
        clear hE r2' hs2
        simp only [Rel.putL, Rel.dst, List.getElem?_toArray, List.getElem?_cons_zero, List.getElem?_cons_succ, Option.bind_some, Act.put, List.setIfInBounds_toArray, List.set_cons_zero, List.set_cons_succ, u2] at hK ⊢
        go_simp
        exact hK undef (dres w' (w2.heap.size + 1) s2 (.slice X2 l2 k2)) (DAt.new HE6.out.1.br HE6.out.2) ⟨fun h => h.away HE6.out.1.br _ _, fun h => h.put HE6.out.1.br (by omega) _ _, fun _ => DAt.new HE6.out.1.br HE6.out.2⟩ (HE6.out.1.putr s2 X2 l2 k2)
      exact Rel.Steps.done
    · intro vals Wx DD hD hE hR
      have r4 := Rel.AllR.mem.1 hR 6 (by simp)
      have r5 := Rel.AllR.mem.1 hR 7 (by simp)
      obtain ⟨s5, A5, L5, c5, s6, A6, L6, c6, ht, hqq, hrr⟩ := hE.end_ r4 r5
      simp only [Rel.putL, Rel.dst, List.getElem?_toArray, List.getElem?_cons_zero, List.getElem?_cons_succ, Option.bind_some, Act.put, List.setIfInBounds_toArray, List.set_cons_zero, List.set_cons_succ]
      clear hR hE r4 r5 hD
      have x0 := ht.cq0
      have x1 := ht.cq1
      have HT := Lib.hid (And.intro ht (And.intro hqq hrr))
      clear ht hqq hrr H3 HE
      go_wp2_with fail
      refine (rgive_any (k := 45) HT.out.2.1 HG.out.2.2.1 (by omega)).mono ?_
      rw [HG.out.1]
      rintro e w8 ⟨rfl, hb8⟩
      have n2 := (HT.out.1.op hb8).cr0
      have n3 := (HT.out.1.op hb8).cr1
      have H8 := Lib.hid (And.intro (HT.out.2.2.below hb8 (Nat.le_refl _)) (HT.out.1.op hb8).below)
      clear HT hb8 x0 x1
      go_wp2_with fail
      refine (rgive_any (k := 45) H8.out.1 HG.out.2.2.2.1 (by omega)).mono ?_
      rw [HG.out.2.1]
      rintro e w9 ⟨rfl, hb9⟩
      have H9 := Lib.hid (H8.out.2.trans (hb9.mono H8.out.2.size))
      clear H8 hb9 n2 n3
      go_wp2
      go_ret3
      exact ⟨rfl, H9.out⟩
end Go.Proofs.YtfogkkanifnppaaGreatDoor
