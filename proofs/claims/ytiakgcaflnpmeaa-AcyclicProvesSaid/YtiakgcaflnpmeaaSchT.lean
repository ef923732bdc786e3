/- The source's schemas: what lies in memory while one is made, step by step. -/
import Derived.Test.YtiakgcaflnpmeaaSchQ
import Derived.Test.YtiakgcaflnpmeaaSrcN
import Derived.Lib.BufferMore
import Derived.Deep.AppendLies
namespace Go.Proofs.Ytiakgcaflnpmeaa
open Go Go.RowKit

/-- All blocks but one stay al they are. -/
def Keeps (w w' : World) (row : Option Nat) : Prop := w.heap.size ≤ w'.heap.size ∧ ∀ k, k < w.heap.size → row ≠ some k → w'.heap[k]? = w.heap[k]?
theorem Keeps.refl (w : World) (row : Option Nat) : Keeps w w row := ⟨Nat.le_refl _, fun _ _ _ => rfl⟩
theorem Keeps.below {w w' : World} (h : Below w.heap.size w w') (row : Option Nat) : Keeps w w' row := ⟨h.size, fun k hk _ => h.block k hk⟩
theorem Keeps.src {w w' : World} {g : Nat} (h : Src1 g w w') : Keeps w w' (some g) := ⟨h.1.size, fun k hk hne => h.2 k hk fun e => hne (by rw [e])⟩
theorem Keeps.grown {w w' : World} {row : Option Nat} (h : w.grownBy w' row) : Keeps w w' row :=
  ⟨((Below.refl 0 w).grown h (Nat.zero_le _) (fun _ _ => Nat.zero_le _)).size, fun k hk hne => h.block k hk (fun e => by first | exact hne e | exact hne e.symm)⟩
theorem Keeps.set (w : World) (b i : Nat) (u : Value) : Keeps w (w.setCell ⟨b, i, none⟩ u) (some b) :=
  ⟨by simp [World.setCell], fun k _ hne => Below.heap_setCell _ _ _ _ (by show k ≠ b; exact fun e => hne (by rw [e]))⟩
theorem Keeps.trans {w w1 w2 : World} {row : Option Nat} (h : Keeps w w1 row) (h' : Keeps w1 w2 row) : Keeps w w2 row :=
  ⟨Nat.le_trans h.1 h'.1, fun k hk hne => (h'.2 k (Nat.lt_of_lt_of_le hk h.1) hne).trans (h.2 k hk hne)⟩
theorem Keeps.block {w w' : World} {row : Option Nat} {k : Nat} {o : Obj} (h : Keeps w w' row) (hk : w.heap[k]? = some o) (hne : row ≠ some k) : w'.heap[k]? = some o := (h.2 k (lt_of_block hk) hne).trans hk
theorem Keeps.own {w w' : World} {row : Option Nat} {base n size : Nat} {e : TypeId} {v : Value} {xs : List Value} (h : Keeps w w' row) (ho : w.ownsRow base e size v n xs) (hne : ∀ k, v.ownBlock = some k → row ≠ some k) : w'.ownsRow base e size v n xs := by
  refine ⟨ho.1, ?_⟩
  rcases ho.2 with h1 | ⟨g', cap', cur, h', h2, hg', h3⟩
  · exact .inl h1
  · exact .inr ⟨g', cap', cur, h', h2, h.block hg' (hne g' (by rw [h']; rfl)), h3⟩
theorem SrcIn.belowC {w w' : World} {g B : Nat} (h : SrcIn w g) (hb : Below B w w') (hg : g < B) : SrcIn w' g := by
  obtain ⟨A, n, c, a, hh, h1, h2, h3⟩ := h
  refine ⟨A, n, c, a, (hb.block g hg).trans hh, h1, h2, fun h0 => ?_⟩
  obtain ⟨b, off, e, hbl, hc⟩ := h3 h0
  refine ⟨b, off, e, hbl, fun i hi => ?_⟩
  obtain ⟨z, hz, hr⟩ := hc i hi
  exact ⟨z, (hb.cell (Nat.lt_trans hbl hg)).trans hz, hr⟩
def attrC (l : List (ByteArray × Int)) : List Value := l.flatMap fun a => [.string a.1, .int .i64 a.2]
def relC (l : List (ByteArray × Value × List Nat)) : List Value := l.flatMap fun p => [.string p.1, p.2.1]
theorem attrC_snoc (l : List (ByteArray × Int)) (a : ByteArray × Int) : attrC (l ++ [a]) = attrC l ++ [.string a.1, .int .i64 a.2] := by simp [attrC]
theorem relC_snoc (l : List (ByteArray × Value × List Nat)) (p : ByteArray × Value × List Nat) : relC (l ++ [p]) = relC l ++ [.string p.1, p.2.1] := by simp [relC]
theorem pair_at {α : Type} (f g : α → Value) : ∀ (l : List α) (i : Nat) (h : i < l.length), (l.flatMap fun a => [f a, g a])[i * 2]? = some (f l[i]) ∧ (l.flatMap fun a => [f a, g a])[i * 2 + 1]? = some (g l[i])
  | [], i, h => absurd h (by simp)
  | a :: l, 0, _ => ⟨rfl, rfl⟩
  | a :: l, i + 1, h => by
    have := pair_at f g l i (by simpa using h)
    rw [show (i + 1) * 2 = i * 2 + 2 by omega, show i * 2 + 2 + 1 = i * 2 + 1 + 2 by omega]
    simpa using this
theorem natV_snoc (l : List Nat) (a : Nat) : natV (l ++ [a]) = natV l ++ [.int .i64 (a : Int)] := by simp [natV]
/-- Two values lie in different blocks. -/
def Apart (u v : Value) : Prop := ∀ k, u.ownBlock = some k → v.ownBlock ≠ some k
theorem Apart.symm {u v : Value} (h : Apart u v) : Apart v u := fun k hk e => h k e hk
theorem Apart.nil (v : Value) : Apart (.slice none 0 0) v := fun k h => by simp [Value.ownBlock] at h
theorem Apart.nil' (v : Value) : Apart v (.slice none 0 0) := (Apart.nil v).symm
/-- What lies in memory while the relations are made: h is the result's box, h + 1 the schema's; the attributes, the relations, the list of the relation at hand. -/
structure Mk (w0 w : World) (g : Nat) (al : List (ByteArray × Int)) (rs : List (ByteArray × Value × List Nat)) (vA vR vl : Value) (xs : List Nat) : Prop where
  src : SrcIn w g
  gh : g < w0.heap.size
  keep : Src1 g w0 w
  res : w.heap[w0.heap.size]? = some (.cells #[.slice none 0 0, .slice none 0 0, .slice none 0 0, .int .i64 0] 28 (0, 0))
  box : w.heap[w0.heap.size + 1]? = some (.cells #[vA, vR, .slice none 0 0, .int .i64 (-1)] 28 (0, 0))
  attr : w.ownsRow (w0.heap.size + 1 + 1) 84 2 vA al.length (attrC al)
  rel : w.ownsRow (w0.heap.size + 1 + 1) 33 2 vR rs.length (relC rs)
  cur : w.ownsRow (w0.heap.size + 1 + 1) 3 1 vl xs.length (natV xs)
  inner : ∀ p ∈ rs, w.ownsRow (w0.heap.size + 1 + 1) 3 1 p.2.1 p.2.2.length (natV p.2.2)
  dAR : Apart vA vR
  dA : Apart vA vl
  dR : Apart vR vl
  dp : ∀ p ∈ rs, Apart p.2.1 vA ∧ Apart p.2.1 vR ∧ Apart p.2.1 vl
section
variable {w0 w w' : World} {g : Nat} {al : List (ByteArray × Int)} {rs : List (ByteArray × Value × List Nat)} {vA vR vl : Value} {xs : List Nat}
theorem Mk.size (h : Mk w0 w g al rs vA vR vl xs) : w0.heap.size + 1 + 1 ≤ w.heap.size := lt_of_block h.box
/-- A step that changes the source alone. -/
theorem Mk.step (h : Mk w0 w g al rs vA vR vl xs) (hs : SrcIn w' g) (hk : Src1 g w w') : Mk w0 w' g al rs vA vR vl xs := by
  have k := Keeps.src hk
  have hg := h.gh
  have ne : ∀ {n size : Nat} {e : TypeId} {v : Value} {ys : List Value}, w.ownsRow (w0.heap.size + 1 + 1) e size v n ys → ∀ b, v.ownBlock = some b → (some g : Option Nat) ≠ some b := fun ho b hb e => by
    have h1 := (ho.lt b hb).1
    have h2 : g = b := by injection e
    omega
  exact ⟨hs, h.gh, h.keep.trans hk, k.block h.res (by intro e; injection e; omega), k.block h.box (by intro e; injection e; omega), k.own h.attr (ne h.attr), k.own h.rel (ne h.rel), k.own h.cur (ne h.cur), fun p hp => k.own (h.inner p hp) (ne (h.inner p hp)), h.dAR, h.dA, h.dR, h.dp⟩
theorem Mk.below (h : Mk w0 w g al rs vA vR vl xs) (hb : Below w.heap.size w w') : Mk w0 w' g al rs vA vR vl xs :=
  h.step (h.src.below hb) (Src1.below hb (Nat.le_of_lt h.src.lt))
theorem Mk.late (h : Mk w0 w g al rs vA vR vl xs) (hb : Below w0.heap.size w w') : SrcIn w' g ∧ Src1 g w0 w' := by
  have hg := h.gh
  exact ⟨h.src.belowC hb hg, ⟨h.keep.1.trans (hb.mono (Nat.le_of_lt hg)), fun j hj hne => (hb.block j hj).trans (h.keep.2 j hj hne)⟩⟩
theorem apart_new {u v v' : Value} {n : Nat} (hA : Apart u v) (hb : v'.ownBlock = v.ownBlock ∨ v'.ownBlock = some n) (hlt : ∀ k, u.ownBlock = some k → k < n) : Apart u v' := fun k hk e => by
  rcases hb with h1 | h1
  · exact hA k hk (h1.symm.trans e)
  · have h2 := hlt k hk
    have h3 : n = k := by have := h1.symm.trans e; injection this
    omega
theorem own_lt {w w1 : World} {base n size : Nat} {e : TypeId} {v : Value} {ys : List Value} (h : w.ownsRow base e size v n ys) (hs : w.heap.size ≤ w1.heap.size) : ∀ k, v.ownBlock = some k → k < w1.heap.size := fun k hk => Nat.lt_of_lt_of_le (h.lt k hk).2 hs
/-- One more number in the list at hand. -/
theorem Mk.pushCur {w1 wn : World} {v' : Value} {a : Nat} (h : Mk w0 w g al rs vA vR vl xs) (h1 : Below w.heap.size w w1) (hown : wn.ownsRow (w0.heap.size + 1 + 1) 3 1 v' (xs.length + 1) (natV xs ++ [.int .i64 (a : Int)]))
    (hgrow : w1.grownBy wn vl.ownBlock) (hblk : v'.ownBlock = vl.ownBlock ∨ v'.ownBlock = some w1.heap.size) : Mk w0 wn g al rs vA vR v' (xs ++ [a]) := by
  have hm := h.below h1
  have k := Keeps.grown hgrow
  have hrow : ∀ b, vl.ownBlock = some b → w0.heap.size + 1 + 1 ≤ b := fun b hb => (h.cur.lt b hb).1
  have hB : Below w0.heap.size w1 wn := (Below.refl _ _).grown hgrow (Nat.le_trans (by omega) hm.size) (fun b hb => by have := hrow b hb; omega)
  have hl := hm.late hB
  have ne : ∀ b, b < w0.heap.size + 1 + 1 → vl.ownBlock ≠ some b := fun b hb e => by have := hrow b e; omega
  exact ⟨hl.1, h.gh, hl.2, k.block hm.res (ne _ (by omega)), k.block hm.box (ne _ (by omega)), k.own hm.attr (fun b hb e => hm.dA b hb e), k.own hm.rel (fun b hb e => hm.dR b hb e), by rw [natV_snoc, List.length_append]; exact hown,
    fun p hp => k.own (hm.inner p hp) (fun b hb e => (hm.dp p hp).2.2 b hb e), hm.dAR, apart_new hm.dA hblk (own_lt hm.attr (Nat.le_refl _)), apart_new hm.dR hblk (own_lt hm.rel (Nat.le_refl _)),
    fun p hp => ⟨(hm.dp p hp).1, (hm.dp p hp).2.1, apart_new (hm.dp p hp).2.2 hblk (own_lt (hm.inner p hp) (Nat.le_refl _))⟩⟩
/-- One more attribute. -/
theorem Mk.pushAttr {w1 wn : World} {v' : Value} {a : ByteArray × Int} (h : Mk w0 w g al rs vA vR vl xs) (h1 : Below w.heap.size w w1) (hown : wn.ownsRow (w0.heap.size + 1 + 1) 84 2 v' (al.length + 1) (attrC al ++ [.string a.1, .int .i64 a.2]))
    (hgrow : w1.grownBy wn vA.ownBlock) (hblk : v'.ownBlock = vA.ownBlock ∨ v'.ownBlock = some w1.heap.size) : Mk w0 (wn.setCell ⟨w0.heap.size + 1, 0, none⟩ v') g (al ++ [a]) rs v' vR vl xs := by
  have hm := h.below h1
  have k := Keeps.grown hgrow
  have hrow : ∀ b, vA.ownBlock = some b → w0.heap.size + 1 + 1 ≤ b := fun b hb => (h.attr.lt b hb).1
  have hB : Below w0.heap.size w1 (wn.setCell ⟨w0.heap.size + 1, 0, none⟩ v') := ((Below.refl _ _).grown hgrow (Nat.le_trans (by omega) hm.size) (fun b hb => by have := hrow b hb; omega)).setCell (p := ⟨w0.heap.size + 1, 0, none⟩) (by show w0.heap.size ≤ w0.heap.size + 1; omega) _
  have hl := hm.late hB
  have ne : ∀ b, b < w0.heap.size + 1 + 1 → vA.ownBlock ≠ some b := fun b hb e => by have := hrow b e; omega
  have ks := Keeps.set wn (w0.heap.size + 1) 0 v'
  have nb : ∀ {n size : Nat} {e : TypeId} {v : Value} {ys : List Value} {w2 : World}, w2.ownsRow (w0.heap.size + 1 + 1) e size v n ys → ∀ b, v.ownBlock = some b → (some (w0.heap.size + 1) : Option Nat) ≠ some b := fun ho b hb e => by
    have h1 := (ho.lt b hb).1
    have h2 : w0.heap.size + 1 = b := by injection e
    omega
  have o1 := k.own hm.rel (fun b hb e => hm.dAR b e hb)
  have o2 := k.own hm.cur (fun b hb e => hm.dA b e hb)
  exact ⟨hl.1, h.gh, hl.2, ks.block (k.block hm.res (ne _ (by omega))) (by intro e; injection e; omega), Lib.heap_setCell_same (k.block hm.box (ne _ (by omega))) _, ks.own (by rw [attrC_snoc, List.length_append]; exact hown) (nb hown), ks.own o1 (nb o1), ks.own o2 (nb o2),
    fun p hp => by have o3 := k.own (hm.inner p hp) (fun b hb e => (hm.dp p hp).1 b hb e); exact ks.own o3 (nb o3),
    (apart_new hm.dAR.symm hblk (own_lt hm.rel (Nat.le_refl _))).symm, (apart_new hm.dA.symm hblk (own_lt hm.cur (Nat.le_refl _))).symm, hm.dR, fun p hp => ⟨apart_new (hm.dp p hp).1 hblk (own_lt (hm.inner p hp) (Nat.le_refl _)), (hm.dp p hp).2⟩⟩
/-- The list at hand is the next relation's. -/
theorem Mk.pushRel {w1 wn : World} {v' : Value} {nm : ByteArray} (h : Mk w0 w g al rs vA vR vl xs) (h1 : Below w.heap.size w w1) (hown : wn.ownsRow (w0.heap.size + 1 + 1) 33 2 v' (rs.length + 1) (relC rs ++ [.string nm, vl]))
    (hgrow : w1.grownBy wn vR.ownBlock) (hblk : v'.ownBlock = vR.ownBlock ∨ v'.ownBlock = some w1.heap.size) : Mk w0 (wn.setCell ⟨w0.heap.size + 1, 1, none⟩ v') g al (rs ++ [(nm, vl, xs)]) vA v' (.slice none 0 0) [] := by
  have hm := h.below h1
  have k := Keeps.grown hgrow
  have hrow : ∀ b, vR.ownBlock = some b → w0.heap.size + 1 + 1 ≤ b := fun b hb => (h.rel.lt b hb).1
  have hB : Below w0.heap.size w1 (wn.setCell ⟨w0.heap.size + 1, 1, none⟩ v') := ((Below.refl _ _).grown hgrow (Nat.le_trans (by omega) hm.size) (fun b hb => by have := hrow b hb; omega)).setCell (p := ⟨w0.heap.size + 1, 1, none⟩) (by show w0.heap.size ≤ w0.heap.size + 1; omega) _
  have hl := hm.late hB
  have ne : ∀ b, b < w0.heap.size + 1 + 1 → vR.ownBlock ≠ some b := fun b hb e => by have := hrow b e; omega
  have ks := Keeps.set wn (w0.heap.size + 1) 1 v'
  have nb : ∀ {n size : Nat} {e : TypeId} {v : Value} {ys : List Value} {w2 : World}, w2.ownsRow (w0.heap.size + 1 + 1) e size v n ys → ∀ b, v.ownBlock = some b → (some (w0.heap.size + 1) : Option Nat) ≠ some b := fun ho b hb e => by
    have h1 := (ho.lt b hb).1
    have h2 : w0.heap.size + 1 = b := by injection e
    omega
  have o1 := k.own hm.attr (fun b hb e => hm.dAR b hb e)
  have o2 := k.own hm.cur (fun b hb e => hm.dR b e hb)
  refine ⟨hl.1, h.gh, hl.2, ks.block (k.block hm.res (ne _ (by omega))) (by intro e; injection e; omega), Lib.heap_setCell_same (k.block hm.box (ne _ (by omega))) _, ks.own o1 (nb o1), ks.own (by rw [relC_snoc, List.length_append]; exact hown) (nb hown), World.ownsRow_nil _ _ _ _,
    fun p hp => ?_, apart_new hm.dAR hblk (own_lt hm.attr (Nat.le_refl _)), Apart.nil' _, Apart.nil' _, fun p hp => ?_⟩
  · rcases List.mem_append.1 hp with hp | hp
    · have o3 := k.own (hm.inner p hp) (fun b hb e => (hm.dp p hp).2.1 b hb e)
      exact ks.own o3 (nb o3)
    · rw [List.mem_singleton] at hp
      subst hp
      exact ks.own o2 (nb o2)
  · rcases List.mem_append.1 hp with hp | hp
    · exact ⟨(hm.dp p hp).1, apart_new (hm.dp p hp).2.1 hblk (own_lt (hm.inner p hp) (Nat.le_refl _)), Apart.nil' _⟩
    · rw [List.mem_singleton] at hp
      subst hp
      exact ⟨hm.dA.symm, apart_new hm.dR.symm hblk (own_lt hm.cur (Nat.le_refl _)), Apart.nil' _⟩
/-- A new list at hand. -/
theorem Mk.newCur (h : Mk w0 w g al rs vA vR vl xs) : Mk w0 (w.alloc (.cells #[.int .i64 0] 3)) g al rs vA vR (.slice (some ⟨w.heap.size, 0, none⟩) 1 1) [0] := by
  have hm := h.below ((Below.refl _ _).alloc (Nat.le_refl _) (.cells #[.int .i64 0] 3))
  have hs := h.size
  have ap : ∀ {n size : Nat} {e : TypeId} {v : Value} {ys : List Value}, w.ownsRow (w0.heap.size + 1 + 1) e size v n ys → Apart v (.slice (some ⟨w.heap.size, 0, none⟩) 1 1) := fun ho k hk e => by
    have h1 := (ho.lt k hk).2
    have h2 : w.heap.size = k := by simpa [Value.ownBlock] using e
    omega
  exact ⟨hm.src, h.gh, hm.keep, hm.res, hm.box, hm.attr, hm.rel, World.ownsRow_lit w #[.int .i64 0] 1 hs (by decide) rfl, hm.inner, h.dAR, ap h.attr, ap h.rel, fun p hp => ⟨(h.dp p hp).1, (h.dp p hp).2.1, ap (h.inner p hp)⟩⟩
end
end Go.Proofs.Ytiakgcaflnpmeaa
