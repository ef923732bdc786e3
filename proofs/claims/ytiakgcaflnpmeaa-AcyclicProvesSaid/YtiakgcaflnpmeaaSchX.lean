/- The source's schemas: what lies in memory while the features are made; the schema that comes out, and that it is valid. -/
import Derived.Test.YtiakgcaflnpmeaaSchU
namespace Go.Proofs.Ytiakgcaflnpmeaa
open Go Go.RowKit

def featC (l : List (Int × Int × Int)) : List Value := l.flatMap fun f => [.int .i64 f.1, .int .i64 f.2.1, .int .i64 f.2.2]
theorem featC_snoc (l : List (Int × Int × Int)) (f : Int × Int × Int) : featC (l ++ [f]) = featC l ++ [.int .i64 f.1, .int .i64 f.2.1, .int .i64 f.2.2] := by simp [featC]
theorem triple_at : ∀ (l : List (Int × Int × Int)) (i : Nat) (h : i < l.length), (featC l)[i * 3]? = some (.int .i64 l[i].1) ∧ (featC l)[i * 3 + 1]? = some (.int .i64 l[i].2.1) ∧ (featC l)[i * 3 + 2]? = some (.int .i64 l[i].2.2)
  | [], i, h => absurd h (by simp)
  | a :: l, 0, _ => ⟨rfl, rfl, rfl⟩
  | a :: l, i + 1, h => by
    have := triple_at l i (by simpa using h)
    rw [show (i + 1) * 3 = i * 3 + 3 by omega, show i * 3 + 3 + 1 = i * 3 + 1 + 3 by omega, show i * 3 + 3 + 2 = i * 3 + 2 + 3 by omega]
    simpa [featC] using this
/-- What lies in memory while the features are made. -/
structure Mf (w0 w : World) (g : Nat) (al : List (ByteArray × Int)) (rs : List (ByteArray × Value × List Nat)) (vA vR vF : Value) (fs : List (Int × Int × Int)) (lab : Int) : Prop where
  src : SrcIn w g
  gh : g < w0.heap.size
  keep : Src1 g w0 w
  res : w.heap[w0.heap.size]? = some (.cells #[.slice none 0 0, .slice none 0 0, .slice none 0 0, .int .i64 0] 28 (0, 0))
  box : w.heap[w0.heap.size + 1]? = some (.cells #[vA, vR, vF, .int .i64 lab] 28 (0, 0))
  attr : w.ownsRow (w0.heap.size + 1 + 1) 84 2 vA al.length (attrC al)
  rel : w.ownsRow (w0.heap.size + 1 + 1) 33 2 vR rs.length (relC rs)
  inner : ∀ p ∈ rs, w.ownsRow (w0.heap.size + 1 + 1) 3 1 p.2.1 p.2.2.length (natV p.2.2)
  feat : w.ownsRow (w0.heap.size + 1 + 1) 86 3 vF fs.length (featC fs)
  dA : Apart vA vF
  dR : Apart vR vF
  dp : ∀ p ∈ rs, Apart p.2.1 vF
section
variable {w0 w w' : World} {g : Nat} {al : List (ByteArray × Int)} {rs : List (ByteArray × Value × List Nat)} {vA vR vF : Value} {fs : List (Int × Int × Int)} {lab : Int}
theorem Mk.feats (h : Mk w0 w g al rs vA vR (.slice none 0 0) []) : Mf w0 w g al rs vA vR (.slice none 0 0) [] (-1) :=
  ⟨h.src, h.gh, h.keep, h.res, h.box, h.attr, h.rel, h.inner, World.ownsRow_nil _ _ _ _, Apart.nil' _, Apart.nil' _, fun _ _ => Apart.nil' _⟩
theorem Mf.size (h : Mf w0 w g al rs vA vR vF fs lab) : w0.heap.size + 1 + 1 ≤ w.heap.size := lt_of_block h.box
theorem Mf.step (h : Mf w0 w g al rs vA vR vF fs lab) (hs : SrcIn w' g) (hk : Src1 g w w') : Mf w0 w' g al rs vA vR vF fs lab := by
  have k := Keeps.src hk
  have hg := h.gh
  have ne : ∀ {n size : Nat} {e : TypeId} {v : Value} {ys : List Value}, w.ownsRow (w0.heap.size + 1 + 1) e size v n ys → ∀ b, v.ownBlock = some b → (some g : Option Nat) ≠ some b := fun ho b hb e => by
    have h1 := (ho.lt b hb).1
    have h2 : g = b := by injection e
    omega
  exact ⟨hs, h.gh, h.keep.trans hk, k.block h.res (by intro e; injection e; omega), k.block h.box (by intro e; injection e; omega), k.own h.attr (ne h.attr), k.own h.rel (ne h.rel), fun p hp => k.own (h.inner p hp) (ne (h.inner p hp)), k.own h.feat (ne h.feat), h.dA, h.dR, h.dp⟩
theorem Mf.below (h : Mf w0 w g al rs vA vR vF fs lab) (hb : Below w.heap.size w w') : Mf w0 w' g al rs vA vR vF fs lab :=
  h.step (h.src.below hb) (Src1.below hb (Nat.le_of_lt h.src.lt))
theorem Mf.late (h : Mf w0 w g al rs vA vR vF fs lab) (hb : Below w0.heap.size w w') : SrcIn w' g ∧ Src1 g w0 w' := by
  have hg := h.gh
  exact ⟨h.src.belowC hb hg, ⟨h.keep.1.trans (hb.mono (Nat.le_of_lt hg)), fun j hj hne => (hb.block j hj).trans (h.keep.2 j hj hne)⟩⟩
theorem Mf.nb (_ : Mf w0 w g al rs vA vR vF fs lab) {n size b0 : Nat} {e : TypeId} {v : Value} {ys : List Value} {w2 : World} (ho : w2.ownsRow (w0.heap.size + 1 + 1) e size v n ys) (h0 : b0 < w0.heap.size + 1 + 1) : ∀ b, v.ownBlock = some b → (some b0 : Option Nat) ≠ some b := fun b hb e => by
  have h1 := (ho.lt b hb).1
  have h2 : b0 = b := by injection e
  omega
/-- The label. -/
theorem Mf.setLabel (h : Mf w0 w g al rs vA vR vF fs lab) (a : Int) : Mf w0 (w.setCell ⟨w0.heap.size + 1, 3, none⟩ (.int .i64 a)) g al rs vA vR vF fs a := by
  have hB : Below w0.heap.size w (w.setCell ⟨w0.heap.size + 1, 3, none⟩ (.int .i64 a)) := (Below.refl _ _).setCell (p := ⟨w0.heap.size + 1, 3, none⟩) (by show w0.heap.size ≤ w0.heap.size + 1; omega) _
  have hl := h.late hB
  have ks := Keeps.set w (w0.heap.size + 1) 3 (.int .i64 a)
  exact ⟨hl.1, h.gh, hl.2, ks.block h.res (by intro e; injection e; omega), Lib.heap_setCell_same h.box _, ks.own h.attr (h.nb h.attr (by omega)), ks.own h.rel (h.nb h.rel (by omega)), fun p hp => ks.own (h.inner p hp) (h.nb (h.inner p hp) (by omega)), ks.own h.feat (h.nb h.feat (by omega)), h.dA, h.dR, h.dp⟩
/-- One more feature. -/
theorem Mf.pushFeat {w1 wn : World} {v' : Value} {f : Int × Int × Int} (h : Mf w0 w g al rs vA vR vF fs lab) (h1 : Below w.heap.size w w1) (hown : wn.ownsRow (w0.heap.size + 1 + 1) 86 3 v' (fs.length + 1) (featC fs ++ [.int .i64 f.1, .int .i64 f.2.1, .int .i64 f.2.2]))
    (hgrow : w1.grownBy wn vF.ownBlock) (hblk : v'.ownBlock = vF.ownBlock ∨ v'.ownBlock = some w1.heap.size) : Mf w0 (wn.setCell ⟨w0.heap.size + 1, 2, none⟩ v') g al rs vA vR v' (fs ++ [f]) lab := by
  have hm := h.below h1
  have k := Keeps.grown hgrow
  have hrow : ∀ b, vF.ownBlock = some b → w0.heap.size + 1 + 1 ≤ b := fun b hb => (h.feat.lt b hb).1
  have hB : Below w0.heap.size w1 (wn.setCell ⟨w0.heap.size + 1, 2, none⟩ v') := ((Below.refl _ _).grown hgrow (Nat.le_trans (by omega) hm.size) (fun b hb => by have := hrow b hb; omega)).setCell (p := ⟨w0.heap.size + 1, 2, none⟩) (by show w0.heap.size ≤ w0.heap.size + 1; omega) _
  have hl := hm.late hB
  have ne : ∀ b, b < w0.heap.size + 1 + 1 → vF.ownBlock ≠ some b := fun b hb e => by have := hrow b e; omega
  have ks := Keeps.set wn (w0.heap.size + 1) 2 v'
  have o1 := k.own hm.attr (fun b hb e => hm.dA b hb e)
  have o2 := k.own hm.rel (fun b hb e => hm.dR b hb e)
  exact ⟨hl.1, h.gh, hl.2, ks.block (k.block hm.res (ne _ (by omega))) (by intro e; injection e; omega), Lib.heap_setCell_same (k.block hm.box (ne _ (by omega))) _, ks.own o1 (h.nb o1 (by omega)), ks.own o2 (h.nb o2 (by omega)),
    fun p hp => by have o3 := k.own (hm.inner p hp) (fun b hb e => hm.dp p hp b hb e); exact ks.own o3 (h.nb o3 (by omega)), ks.own (by rw [featC_snoc, List.length_append]; exact hown) (h.nb hown (by omega)),
    apart_new hm.dA hblk (own_lt hm.attr (Nat.le_refl _)), apart_new hm.dR hblk (own_lt hm.rel (Nat.le_refl _)), fun p hp => apart_new (hm.dp p hp) hblk (own_lt (hm.inner p hp) (Nat.le_refl _))⟩
end
/-- What is known of the features when a attributes are looked at. -/
structure Fok (al : List (ByteArray × Int)) (fs : List (Int × Int × Int)) (lab : Int) (a : Nat) : Prop where
  len : fs.length ≤ a
  lb : lab = -1 ∨ ∃ k : Nat, lab = (k : Int) ∧ k < a ∧ (al.map (·.2)).getD k 0 = 2
  fx : ∀ f ∈ fs, ∃ k : Nat, f.1 = (k : Int) ∧ k < a ∧ suitsB f.2.1 f.2.2 ((al.map (·.2)).getD k 0) = true ∧ f.1 ≠ lab
  up : fs.Pairwise fun f f' => f.1 < f'.1
theorem Fok.start (al : List (ByteArray × Int)) : Fok al [] (-1) 0 := ⟨Nat.le_refl _, .inl rfl, fun _ h => absurd h (by simp), List.Pairwise.nil⟩
theorem Fok.skip {al : List (ByteArray × Int)} {fs : List (Int × Int × Int)} {lab : Int} {a : Nat} (h : Fok al fs lab a) : Fok al fs lab (a + 1) :=
  ⟨Nat.le_succ_of_le h.len, h.lb.elim .inl fun ⟨k, e, hk, hv⟩ => .inr ⟨k, e, Nat.lt_succ_of_lt hk, hv⟩, fun f hf => by obtain ⟨k, e, hk, hv⟩ := h.fx f hf; exact ⟨k, e, Nat.lt_succ_of_lt hk, hv⟩, h.up⟩
theorem Fok.label {al : List (ByteArray × Int)} {fs : List (Int × Int × Int)} {lab : Int} {a : Nat} (h : Fok al fs lab a) (hk : (al.map (·.2)).getD a 0 = 2) : Fok al fs (a : Int) (a + 1) :=
  ⟨Nat.le_succ_of_le h.len, .inr ⟨a, rfl, Nat.lt_succ_self _, hk⟩, fun f hf => by obtain ⟨k, e, hk, hv, _⟩ := h.fx f hf; exact ⟨k, e, Nat.lt_succ_of_lt hk, hv, by rw [e]; omega⟩, h.up⟩
theorem Fok.push {al : List (ByteArray × Int)} {fs : List (Int × Int × Int)} {lab : Int} {a : Nat} (h : Fok al fs lab a) {k m : Int} (hs : suitsB k m ((al.map (·.2)).getD a 0) = true) : Fok al (fs ++ [((a : Int), k, m)]) lab (a + 1) := by
  have hx := h.skip
  refine ⟨by rw [List.length_append]; exact Nat.succ_le_succ h.len, hx.lb, fun f hf => ?_, List.pairwise_append.2 ⟨h.up, List.pairwise_singleton _ _, fun f hf f' hf' => ?_⟩⟩
  · rcases List.mem_append.1 hf with hf | hf
    · exact hx.fx f hf
    · rw [List.mem_singleton] at hf
      subst hf
      refine ⟨a, rfl, Nat.lt_succ_self _, hs, ?_⟩
      rcases h.lb with e | ⟨j, e, hj, _⟩
      · rw [e]; show (a : Int) ≠ -1; omega
      · rw [e]; show (a : Int) ≠ (j : Int); omega
  · rw [List.mem_singleton] at hf'
    obtain ⟨j, e, hj, _⟩ := h.fx f hf
    rw [hf', e]; show (j : Int) < (a : Int); omega
end Go.Proofs.Ytiakgcaflnpmeaa
