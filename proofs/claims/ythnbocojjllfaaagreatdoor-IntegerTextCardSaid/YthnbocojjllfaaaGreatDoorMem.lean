/- Words for memory: a slice of limbs that holds a number; a block of limbs that the call itself has made. -/
import Derived.Handy
import Derived.Lib.Hide
import Derived.Deep.Draws
import Derived.Test.YthnbocojjllfaaaGreatDoorMath
namespace Go.Proofs.YthnbocojjllfaaaGreatDoor
open Go Go.RowKit

/-- The len limbs at A hold the digits of n. -/
def Limbs (w : World) (A : Option Addr) (len n : Nat) : Prop :=
  n < M.B ^ len ∧ (0 < len → ∃ b off, A = some ⟨b, off, none⟩ ∧ b < w.heap.size ∧ ∀ i, i < len → w.cell? ⟨b, off + i, none⟩ = some (.int .u32 (M.dg n i)))

/-- v is the natural n: as few limbs as there can be. -/
def IsNat (w : World) (v : Value) (n : Nat) : Prop :=
  ∃ A len cap, v = .slice A len cap ∧ Limbs w A len n ∧ (len = 0 ∨ M.B ^ (len - 1) ≤ n) ∧ len ≤ cap ∧ cap ≤ 9223372036854775807

theorem Limbs.at_ {w : World} {A : Option Addr} {len n i : Nat} (h : Limbs w A len n) (hi : i < len) :
    ∃ b off, A = some ⟨b, off, none⟩ ∧ b < w.heap.size ∧ ∀ i, i < len → w.cell? ⟨b, off + i, none⟩ = some (.int .u32 (M.dg n i)) := h.2 (by omega)
theorem Limbs.big {w : World} {A : Option Addr} {len n i : Nat} (h : Limbs w A len n) (hi : len ≤ i) : M.dg n i = 0 := M.dg_big h.1 hi
theorem Limbs.none_ (w : World) (A : Option Addr) : Limbs w A 0 0 := ⟨by simp, fun h => absurd h (by omega)⟩
theorem Limbs.keep {w w' : World} {A : Option Addr} {len n : Nat} (h : Limbs w A len n) (hs : w.heap.size ≤ w'.heap.size) (hc : ∀ p : Addr, p.block < w.heap.size → w'.cell? p = w.cell? p) : Limbs w' A len n :=
  ⟨h.1, fun hl => by
    obtain ⟨b, off, e, hb, hh⟩ := h.2 hl
    exact ⟨b, off, e, by omega, fun i hi => (hc _ hb).trans (hh i hi)⟩⟩
theorem Limbs.below {w w' : World} {A : Option Addr} {len n B : Nat} (h : Limbs w A len n) (hb : Below B w w') (hB : w.heap.size ≤ B) : Limbs w' A len n :=
  h.keep hb.size fun _ hp => hb.cell (by omega)
theorem Limbs.drew {w : World} {A : Option Addr} {len n : Nat} (h : Limbs w A len n) : Limbs w.drew A len n := h
theorem Limbs.drewN {w : World} {A : Option Addr} {len n : Nat} (h : Limbs w A len n) (k : Nat) : Limbs (w.drewN k) A len n := h
theorem Limbs.alloc {w : World} {A : Option Addr} {len n : Nat} (h : Limbs w A len n) (o : Obj) : Limbs (w.alloc o) A len n :=
  h.below ((Below.refl w.heap.size w).alloc (Nat.le_refl _) o) (Nat.le_refl _)
/-- The lowest limbs alone. -/
theorem Limbs.cut {w : World} {A : Option Addr} {len n k : Nat} (h : Limbs w A len n) (hk : k ≤ len) (hn : n < M.B ^ k) : Limbs w A k n :=
  ⟨hn, fun h0 => by
    obtain ⟨b, off, e, hb, hh⟩ := h.2 (by omega)
    exact ⟨b, off, e, hb, fun i hi => hh i (by omega)⟩⟩

theorem IsNat.keep {w w' : World} {v : Value} {n : Nat} (h : IsNat w v n) (hs : w.heap.size ≤ w'.heap.size) (hc : ∀ p : Addr, p.block < w.heap.size → w'.cell? p = w.cell? p) : IsNat w' v n := by
  obtain ⟨A, len, cap, e, hl, r⟩ := h
  exact ⟨A, len, cap, e, hl.keep hs hc, r⟩
theorem IsNat.below {w w' : World} {v : Value} {n B : Nat} (h : IsNat w v n) (hb : Below B w w') (hB : w.heap.size ≤ B) : IsNat w' v n :=
  h.keep hb.size fun _ hp => hb.cell (by omega)
theorem IsNat.drewN {w : World} {v : Value} {n : Nat} (h : IsNat w v n) (k : Nat) : IsNat (w.drewN k) v n := h
theorem IsNat.drew {w : World} {v : Value} {n : Nat} (h : IsNat w v n) : IsNat w.drew v n := h
theorem IsNat.alloc {w : World} {v : Value} {n : Nat} (h : IsNat w v n) (o : Obj) : IsNat (w.alloc o) v n :=
  h.below ((Below.refl w.heap.size w).alloc (Nat.le_refl _) o) (Nat.le_refl _)
theorem len_le {len n k : Nat} (h : len = 0 ∨ M.B ^ (len - 1) ≤ n) (hn : n < M.B ^ k) : len ≤ k := by
  rcases h with h | h
  · omega
  · rcases Nat.lt_or_ge k len with h1 | h1
    · have := M.pow_mono (show k ≤ len - 1 by omega); omega
    · exact h1
theorem len_zero {len n : Nat} (h : len = 0 ∨ M.B ^ (len - 1) ≤ n) (hn : n < M.B ^ len) : len = 0 ↔ n = 0 := by
  constructor
  · rintro rfl; simpa using hn
  · rintro rfl
    rcases h with h | h
    · exact h
    · have := M.pow_pos (len - 1); omega
theorem IsNat.zero (w : World) : IsNat w (.slice none 0 0) 0 := ⟨none, 0, 0, rfl, Limbs.none_ _ _, .inl rfl, by omega, by omega⟩

/-- Block g is just the L limbs of n, none frozen. -/
def Row (w : World) (g L n : Nat) : Prop :=
  ∃ cs : Array Value, w.heap[g]? = some (.cells cs 160 (0, 0)) ∧ cs.size = L ∧ n < M.B ^ L ∧ ∀ j, j < L → cs[j]? = some (.int .u32 (M.dg n j))

theorem Row.lt {w : World} {g L n : Nat} (h : Row w g L n) : g < w.heap.size := by
  obtain ⟨cs, h, _⟩ := h
  exact lt_of_block h
theorem Row.bound {w : World} {g L n : Nat} (h : Row w g L n) : n < M.B ^ L := by
  obtain ⟨cs, _, _, h, _⟩ := h
  exact h
theorem Row.cell {w : World} {g L n : Nat} (h : Row w g L n) {j : Nat} (hj : j < L) : w.cell? ⟨g, j, none⟩ = some (.int .u32 (M.dg n j)) := by
  obtain ⟨cs, h, _, _, hc⟩ := h
  simp [World.cell?, h, hc j hj]
theorem Row.free {w : World} {g L n : Nat} (h : Row w g L n) (j : Nat) : w.frozen? ⟨g, j, none⟩ = false := by
  obtain ⟨cs, h, _⟩ := h
  simp [World.frozen?, h]
theorem Row.limbs {w : World} {g L n : Nat} (h : Row w g L n) : Limbs w (some ⟨g, 0, none⟩) L n :=
  ⟨h.bound, fun _ => ⟨g, 0, rfl, h.lt, fun i hi => by rw [Nat.zero_add]; exact h.cell hi⟩⟩
theorem Row.drew {w : World} {g L n : Nat} (h : Row w g L n) : Row w.drew g L n := h
theorem Row.drewN {w : World} {g L n : Nat} (h : Row w g L n) (k : Nat) : Row (w.drewN k) g L n := h
theorem Row.block {w w' : World} {g L n : Nat} (h : Row w g L n) (hb : w'.heap[g]? = w.heap[g]?) : Row w' g L n := by
  obtain ⟨cs, h, r⟩ := h
  exact ⟨cs, hb.trans h, r⟩
theorem Row.below {w w' : World} {g L n B : Nat} (h : Row w g L n) (hb : Below B w w') (hg : g < B) : Row w' g L n := h.block (hb.block g hg)
theorem Row.alloc {w : World} {g L n : Nat} (h : Row w g L n) (o : Obj) : Row (w.alloc o) g L n := h.block (Below.heap_alloc w o g h.lt)
theorem Row.far {w : World} {g L n : Nat} (h : Row w g L n) {p : Addr} (hp : g ≠ p.block) (u : Value) : Row (w.setCell p u) g L n := h.block (Below.heap_setCell w p u g hp)
theorem Row.set {w : World} {g L n k d : Nat} (h : Row w g L n) (hk : k < L) (hd : d < M.B) : Row (w.setCell ⟨g, k, none⟩ (.int .u32 d)) g L (M.put n k d) := by
  obtain ⟨cs, hh, hs, hn, hc⟩ := h
  refine ⟨cs.setIfInBounds k (.int .u32 d), ?_, by simp [hs], M.put_lt hn hk hd, fun j hj => ?_⟩
  · simp [World.setCell, Array.getElem?_modify, hh]
  · rw [Array.getElem?_setIfInBounds]
    by_cases e : k = j
    · subst e
      rw [if_pos rfl, if_pos (by omega), M.dg_put_same n k hd]
    · rw [if_neg e, hc j hj, M.dg_put_other n hd (fun h => e h.symm)]
theorem Row.new (w : World) (L : Nat) : Row (w.alloc (.cells (madeCells #[Value.int .u32 0] L) 160)) w.heap.size L 0 := by
  refine ⟨_, heap_alloc_new w _, by simp [madeCells], M.pow_pos L, fun j hj => ?_⟩
  rw [M.dg_zero]
  simp [madeCells, hj, Nat.mod_one]
end Go.Proofs.YthnbocojjllfaaaGreatDoor
