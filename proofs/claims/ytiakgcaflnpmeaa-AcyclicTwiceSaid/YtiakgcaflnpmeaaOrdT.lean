/- One more relation in another schema: what stays, whatever has been done already. -/
import Derived.Test.YtiakgcaflnpmeaaSchO
import Derived.Test.YtiakgcaflnpmeaaSchT
import Derived.Test.YtiakgcaflnpmeaaRelW
import Derived.Laws.OwnMore
import Derived.Deep.AppendLies
namespace Go.Proofs.Ytiakgcaflnpmeaa
open Go Go.RowKit

def relO (S : Sc) (V : Sv) (l : List Nat) : List Value := l.flatMap fun j => [Value.string (S.rname j), .slice (V.L j).1 (V.L j).2.1 (V.L j).2.2]
theorem relO_snoc (S : Sc) (V : Sv) (l : List Nat) (j : Nat) : relO S V (l ++ [j]) = relO S V l ++ [.string (S.rname j), .slice (V.L j).1 (V.L j).2.1 (V.L j).2.2] := by simp [relO]
theorem relO_len (S : Sc) (V : Sv) (l : List Nat) : (relO S V l).length = l.length * 2 := by
  induction l with
  | nil => rfl
  | cons a l ih => simp [relO] at ih ⊢; omega
theorem relO_at {S : Sc} {V : Sv} : ∀ {l : List Nat} {i : Nat}, i < l.length → (relO S V l)[i * 2]? = some (.string (S.rname (l.getD i 0))) ∧ (relO S V l)[i * 2 + 1]? = some (.slice (V.L (l.getD i 0)).1 (V.L (l.getD i 0)).2.1 (V.L (l.getD i 0)).2.2)
  | [], i, h => absurd h (by simp)
  | a :: l, 0, _ => ⟨rfl, rfl⟩
  | a :: l, i + 1, h => by
    have ih := relO_at (S := S) (V := V) (l := l) (i := i) (by simpa using h)
    have e : relO S V (a :: l) = [.string (S.rname a), .slice (V.L a).1 (V.L a).2.1 (V.L a).2.2] ++ relO S V l := by simp [relO]
    rw [e, List.getElem?_append_right (by show 2 ≤ _; omega), List.getElem?_append_right (by show 2 ≤ _; omega)]
    have e1 : (i + 1) * 2 - [Value.string (S.rname a), .slice (V.L a).1 (V.L a).2.1 (V.L a).2.2].length = i * 2 := by simp; omega
    have e2 : (i + 1) * 2 + 1 - [Value.string (S.rname a), .slice (V.L a).1 (V.L a).2.1 (V.L a).2.2].length = i * 2 + 1 := by simp; omega
    rw [e1, e2]
    exact ih
def Vo (V : Sv) (R : Option Addr) (c : Nat) (l : List Nat) : Sv := { V with R := R, cr := c, L := fun j => V.L (l.getD j 0) }
theorem put_in {w : World} {S : Sc} {V : Sv} {l : List Nat} {P g c : Nat} (h : SchIn w S V) (hl : Ordr S.nr l) (ho : w.ownsRow P 33 2 (.slice (some ⟨g, 0, none⟩) S.nr c) S.nr (relO S V l)) (hc : S.nr ≤ c ∧ c ≤ maxLen) (hg : g < w.heap.size) :
    SchIn w (S.put l) (Vo V (some ⟨g, 0, none⟩) c l) :=
  { attr := h.attr
    rel := fun _ => ⟨g, 0, rfl, hg, fun i hi => by
      have hi : i < l.length := by rw [hl.len]; exact hi
      have := relO_at (S := S) (V := V) hi
      rw [Nat.zero_add]
      exact ⟨(ho.cellAt _ (by rw [hl.len] at hi; omega)).trans this.1, (ho.cellAt _ (by rw [hl.len] at hi; omega)).trans this.2⟩⟩
    feat := h.feat
    ints := fun i hi => h.ints _ (hl.lt hi)
    na := h.na, nr := h.nr, nf := h.nf, ca := h.ca, cr := hc.1, cf := h.cf, cam := h.cam, crm := hc.2, cfm := h.cfm, ns := h.ns
    rs := fun i hi => h.rs _ (hl.lt hi) }
structure OrdL (w0 w2 : World) (g B P n : Nat) (S : Sc) (V : Sv) (lv : Value) (l dn : List Nat) (sv : Value) (w : World) : Prop where
  low : Below w0.heap.size w0 w
  kp : Keeps w2 w (some g)
  hB : w2.heap.size = B
  h0 : w0.heap.size ≤ B
  bx : w.heap[B]? = some (.cells #[.slice V.A S.na V.ca, .slice V.R S.nr V.cr, .slice V.F S.nf V.cf, .int .i64 S.label] 28 (0, 0))
  box : w.heap[B + 1]? = some (.cells #[.slice V.A S.na V.ca, sv, .slice V.F S.nf V.cf, .int .i64 S.label] 28 (0, 0))
  lst : w.ownsRow (B + 1 + 1) 3 1 lv n (ordV l)
  lvb : ∀ k, lv.ownBlock = some k → k < P
  own : w.ownsRow P 33 2 sv dn.length (relO S V dn)
  sz : P ≤ w.heap.size
  bb : B + 1 + 1 ≤ P
def OrdT (b : Nat) (sv : Value) (w w' : World) : Prop := w.heap.size ≤ w'.heap.size ∧ ∀ k, k < w.heap.size → k ≠ b → sv.ownBlock ≠ some k → w'.heap[k]? = w.heap[k]?
theorem OrdT.same {b : Nat} {sv : Value} {w : World} : OrdT b sv w w := ⟨Nat.le_refl _, fun _ _ _ _ => rfl⟩
def RelNew (b : Nat) (sv : Value) (x y v : Value) (w : World) : Prop := ∃ g, v = .slice (some ⟨g, 0, none⟩) 1 1 ∧ w.heap[g]? = some (.cells #[x, y] 33 (0, 0)) ∧ g ≠ b ∧ sv.ownBlock ≠ some g
theorem RelNew.keep {b : Nat} {sv x y v : Value} {w w' : World} (hn : RelNew b sv x y v w) (hT : OrdT b sv w w') : RelNew b sv x y v w' := by
  obtain ⟨g, e, hg, h1, h2⟩ := hn
  exact ⟨g, e, (hT.2 g (lt_of_block hg) h1 h2).trans hg, h1, h2⟩
theorem sn {D : List Nat} {j k : Nat} (h : k ≠ j) : k ∈ D ++ [j] ↔ k ∈ D := by simp [h]
section
variable {w0 w2 w : World} {g B P n j : Nat} {S : Sc} {V : Sv} {lv sv : Value} {l dn : List Nat} {D : List Nat} {Q : Nat → Value}
theorem OrdL.alloc (h : OrdL w0 w2 g B P n S V lv l dn sv w) (o : Obj) : OrdL w0 w2 g B P n S V lv l dn sv (w.alloc o) :=
  ⟨h.low.alloc h.low.size _, h.kp.trans (Keeps.below ((Below.refl _ _).alloc (Nat.le_refl _) o) _), h.hB, h.h0, block_alloc _ h.bx, block_alloc _ h.box, h.lst.alloc _, h.lvb, h.own.alloc _, by have := h.sz; simp; omega, h.bb⟩
theorem OrdL.drew (h : OrdL w0 w2 g B P n S V lv l dn sv w) : OrdL w0 w2 g B P n S V lv l dn sv w.drew := ⟨h.low.drew, h.kp, h.hB, h.h0, h.bx, h.box, h.lst, h.lvb, h.own, h.sz, h.bb⟩
theorem OrdL.app (h : OrdL w0 w2 g B P n S V lv l dn sv w) {gR cR : Nat} {wn : World}
    (O : wn.ownsRow P 33 2 (.slice (some ⟨gR, 0, none⟩) (dn.length + 1) cR) (dn.length + 1) (relO S V dn ++ [.string (S.rname j), .slice (V.L j).1 (V.L j).2.1 (V.L j).2.2])) (G : w.grownBy wn sv.ownBlock) :
    OrdT (B + 1) sv w wn ∧ wn.heap[B]? = w.heap[B]? ∧ wn.heap[B + 1]? = w.heap[B + 1]? ∧ Below w0.heap.size w0 wn ∧ Keeps w2 wn (some g) ∧ OrdL w0 w2 g B P n S V lv l (dn ++ [j]) (.slice (some ⟨gR, 0, none⟩) (dn.length + 1) cR) (wn.setCell ⟨B + 1, 1, none⟩ (.slice (some ⟨gR, 0, none⟩) (dn.length + 1) cR)) := by
  have hR : ∀ b, sv.ownBlock = some b → P ≤ b := fun b hb => (h.own.lt b hb).1
  have hbb := h.bb
  have hhB := h.hB
  have hsz := h.sz
  have far : ∀ k, k < P → wn.heap[k]? = w.heap[k]? := fun k hk => G.block k (by omega) (fun e => by first | (have := hR k e; omega) | (have := hR k e.symm; omega))
  have hsz2 : w.heap.size ≤ wn.heap.size := ((Below.refl 0 w).grown G (Nat.zero_le _) (fun _ _ => Nat.zero_le _)).size
  have h0 := h.h0
  have hlow : Below w0.heap.size w0 wn := h.low.grown G h.low.size (fun r e => by have := hR r e; omega)
  have hkp : Keeps w2 wn (some g) := ⟨Nat.le_trans h.kp.1 hsz2, fun k hk hne => (far k (by omega)).trans (h.kp.2 k hk hne)⟩
  have hgR := (O.lt gR rfl).1
  refine ⟨⟨hsz2, fun k hk _ hne => G.block k hk (fun e => by first | exact hne e | exact hne e.symm)⟩, far B (by omega), far (B + 1) (by omega), hlow, hkp, ?_⟩
  have hlst : wn.ownsRow (B + 1 + 1) 3 1 lv n (ordV l) := h.lst.kept G (by
    cases hs : lv.ownBlock with
    | none => exact .inl rfl
    | some k => exact .inr fun e => by have := h.lvb k hs; have := hR k e.symm; omega)
  refine ⟨hlow.setCell (p := ⟨B + 1, 1, none⟩) (by show w0.heap.size ≤ B + 1; omega) _, ⟨by have := hkp.1; simp [World.setCell]; exact this, fun k hk hne => (Below.heap_setCell _ _ _ _ (by show k ≠ B + 1; omega)).trans (hkp.2 k hk hne)⟩, hhB, h0, (Below.heap_setCell _ _ _ _ (by show B ≠ B + 1; omega)).trans ((far B (by omega)).trans h.bx), heap_setCell_same _ _ _ _ _ _ ((far (B + 1) (by omega)).trans h.box), ?_, h.lvb, ?_, ?_, h.bb⟩
  · exact ownsRow_setCell_other hlst (fun e => absurd (h.lst.lt _ e).1 (by show ¬ B + 1 + 1 ≤ B + 1; omega)) _
  · rw [relO_snoc, List.length_append]
    exact ownsRow_setCell_below O (by show B + 1 < P; omega) _
  · have : (wn.setCell ⟨B + 1, 1, none⟩ (.slice (some ⟨gR, 0, none⟩) (dn.length + 1) cR)).heap.size = wn.heap.size := by simp [World.setCell]
    omega
structure OrdE (w0 w2 : World) (g B P n : Nat) (S : Sc) (V : Sv) (lv : Value) (l dn : List Nat) (j : Nat) (sv : Value) (D : List Nat) (Q : Nat → Value) (w : World) : Prop where
  low : Below w0.heap.size w0 w
  kp : Keeps w2 w (some g)
  un : 8 ∉ D → Q 8 = undef
  bx : w.heap[B]? = some (.cells #[.slice V.A S.na V.ca, .slice V.R S.nr V.cr, .slice V.F S.nf V.cf, .int .i64 S.label] 28 (0, 0))
  box : 10 ∉ D → w.heap[B + 1]? = some (.cells #[.slice V.A S.na V.ca, sv, .slice V.F S.nf V.cf, .int .i64 S.label] 28 (0, 0))
  pre : 8 ∉ D → 10 ∉ D → OrdL w0 w2 g B P n S V lv l dn sv w
  post : 8 ∈ D → 10 ∉ D → ∃ gR cR, Q 8 = .slice (some ⟨gR, 0, none⟩) (dn.length + 1) cR ∧ OrdL w0 w2 g B P n S V lv l (dn ++ [j]) (Q 8) (w.setCell ⟨B + 1, 1, none⟩ (Q 8))
  fin : 10 ∈ D → ∃ sv', OrdL w0 w2 g B P n S V lv l (dn ++ [j]) sv' w
theorem OrdE.start (h : OrdL w0 w2 g B P n S V lv l dn sv w) : OrdE w0 w2 g B P n S V lv l dn j sv [] (fun _ => undef) w.drew where
  low := h.low.drew
  kp := h.kp
  un _ := rfl
  bx := h.bx
  box _ := h.box
  pre _ _ := h.drew
  post hm := absurd hm (by simp)
  fin hm := absurd hm (by simp)
theorem OrdE.same (hE : OrdE w0 w2 g B P n S V lv l dn j sv D Q w) {i : Nat} (h8 : i ≠ 8) (h10 : i ≠ 10) (v : Value) : OrdE w0 w2 g B P n S V lv l dn j sv (D ++ [i]) (fun k => if k = i then v else Q k) w where
  low := hE.low
  kp := hE.kp
  un hm := by show (if 8 = i then v else Q 8) = undef; rw [if_neg (Ne.symm h8)]; exact hE.un fun x => hm ((sn (Ne.symm h8)).2 x)
  bx := hE.bx
  box hm := hE.box fun x => hm ((sn (Ne.symm h10)).2 x)
  pre hm hm' := hE.pre (fun x => hm ((sn (Ne.symm h8)).2 x)) fun x => hm' ((sn (Ne.symm h10)).2 x)
  post hm hm' := by
    have e : (if 8 = i then v else Q 8) = Q 8 := if_neg (Ne.symm h8)
    show ∃ gR cR, (if 8 = i then v else Q 8) = _ ∧ OrdL w0 w2 g B P n S V lv l (dn ++ [j]) (if 8 = i then v else Q 8) (w.setCell ⟨B + 1, 1, none⟩ (if 8 = i then v else Q 8))
    rw [e]
    exact hE.post ((sn (Ne.symm h8)).1 hm) fun x => hm' ((sn (Ne.symm h10)).2 x)
  fin hm := hE.fin ((sn (Ne.symm h10)).1 hm)
theorem OrdE.news (hE : OrdE w0 w2 g B P n S V lv l dn j sv D Q w) (n8 : 8 ∉ D) (n10 : 10 ∉ D) (o : Obj) (v : Value) : OrdE w0 w2 g B P n S V lv l dn j sv (D ++ [7]) (fun k => if k = 7 then v else Q k) (w.alloc o) where
  low := hE.low.alloc hE.low.size _
  kp := hE.kp.trans (Keeps.below ((Below.refl _ _).alloc (Nat.le_refl _) o) _)
  un _ := by show (if 8 = 7 then v else Q 8) = undef; rw [if_neg (by decide)]; exact hE.un n8
  bx := block_alloc _ hE.bx
  box _ := block_alloc _ (hE.box n10)
  pre _ _ := (hE.pre n8 n10).alloc _
  post hm := absurd ((sn (by decide)).1 hm) n8
  fin hm := absurd ((sn (by decide)).1 hm) n10
theorem OrdE.newsAt (hE : OrdE w0 w2 g B P n S V lv l dn j sv D Q w) (n8 : 8 ∉ D) (n10 : 10 ∉ D) (x y : Value) : RelNew (B + 1) sv x y (.slice (some ⟨w.heap.size, 0, none⟩) 1 1) (w.alloc (.cells #[x, y] 33)) := by
  have hr := hE.pre n8 n10
  refine ⟨w.heap.size, rfl, heap_alloc_new w _, ?_, fun e => ?_⟩
  · have := lt_of_block hr.box; omega
  · have := (hr.own.lt _ e).2; omega
theorem OrdE.app (hE : OrdE w0 w2 g B P n S V lv l dn j sv D Q w) (n8 : 8 ∉ D) (n10 : 10 ∉ D) {gR cR : Nat} {wn : World}
    (O : wn.ownsRow P 33 2 (.slice (some ⟨gR, 0, none⟩) (dn.length + 1) cR) (dn.length + 1) (relO S V dn ++ [.string (S.rname j), .slice (V.L j).1 (V.L j).2.1 (V.L j).2.2])) (G : w.grownBy wn sv.ownBlock) :
    OrdT (B + 1) sv w wn ∧ OrdE w0 w2 g B P n S V lv l dn j sv (D ++ [8]) (fun k => if k = 8 then .slice (some ⟨gR, 0, none⟩) (dn.length + 1) cR else Q k) wn := by
  have hr := hE.pre n8 n10
  obtain ⟨h1, h2, h3, h4, h6, h5⟩ := hr.app O G
  refine ⟨h1, ?_⟩
  exact { low := h4
          kp := h6
          un := fun hm => absurd (by simp) hm
          bx := h2.trans hr.bx
          box := fun _ => h3.trans hr.box
          pre := fun hm => absurd (by simp) hm
          post := fun _ _ => ⟨gR, cR, by simp, by
            show OrdL w0 w2 g B P n S V lv l (dn ++ [j]) (if 8 = 8 then _ else Q 8) (wn.setCell ⟨B + 1, 1, none⟩ (if 8 = 8 then _ else Q 8))
            rw [if_pos rfl]
            exact h5⟩
          fin := fun hm => absurd ((sn (by decide)).1 hm) n10 }
theorem OrdE.put (hE : OrdE w0 w2 g B P n S V lv l dn j sv D Q w) (n10 : 10 ∉ D) (hv : Q 8 ≠ undef) :
    (∃ gR cR, Q 8 = .slice (some ⟨gR, 0, none⟩) (dn.length + 1) cR) ∧ OrdT (B + 1) sv w (w.setCell ⟨B + 1, 1, none⟩ (Q 8)) ∧ ∀ u, OrdE w0 w2 g B P n S V lv l dn j sv (D ++ [10]) (fun k => if k = 10 then u else Q k) (w.setCell ⟨B + 1, 1, none⟩ (Q 8)) := by
  have m8 : 8 ∈ D := by
    rcases Classical.em (8 ∈ D) with hm | hm
    · exact hm
    · exact absurd (hE.un hm) hv
  obtain ⟨gR, cR, e, hl⟩ := hE.post m8 n10
  refine ⟨⟨gR, cR, e⟩, ⟨Nat.le_of_eq (by simp [World.setCell]), fun k _ hk _ => Below.heap_setCell _ _ _ _ (by show k ≠ B + 1; exact hk)⟩, fun u => ?_⟩
  exact { low := hl.low
          kp := hl.kp
          un := fun hm => absurd (List.mem_append_left _ m8) hm
          bx := hl.bx
          box := fun hm => absurd (by simp) hm
          pre := fun hm => absurd (List.mem_append_left _ m8) hm
          post := fun _ hm => absurd (by simp) hm
          fin := fun _ => ⟨_, hl⟩ }
end
theorem ord_two (w : World) (x y : Obj) : ((w.alloc x).alloc y).heap[w.heap.size]? = some x ∧ ((w.alloc x).alloc y).heap[w.heap.size + 1]? = some y ∧ Below w.heap.size w ((w.alloc x).alloc y) ∧ ((w.alloc x).alloc y).heap.size = w.heap.size + 1 + 1 :=
  ⟨block_alloc _ (heap_alloc_new w _), block_new _ (by simp), ((Below.refl _ _).alloc (Nat.le_refl _) x).alloc (by simp) y, by simp⟩
theorem slim_capsO {w : World} {P n size g cap : Nat} {e : TypeId} {ys : List Value} (h : w.ownsRow P e size (.slice (some ⟨g, 0, none⟩) n cap) n ys) : n ≤ cap ∧ cap ≤ maxLen := by
  rcases h.2 with ⟨h', _⟩ | ⟨g', cap', cur, h', _, _, h3, h4, _⟩
  · simp at h'
  · injection h' with _ _ h5
    subst h5
    exact ⟨h3, h4⟩
structure TwoS (w wx : World) (B : Nat) (S : Sc) (V : Sv) (l : List Nat) (R : Option Addr) (c : Nat) : Prop where
  low : Below w.heap.size w wx
  sx : SchIn wx S V
  sy : SchIn wx (S.put l) (Vo V R c l)
  bx : wx.heap[B]? = some (.cells #[.slice V.A S.na V.ca, .slice V.R S.nr V.cr, .slice V.F S.nf V.cf, .int .i64 S.label] 28 (0, 0))
  bz : wx.heap[B + 1]? = some (.cells #[.slice V.A S.na V.ca, .slice R S.nr c, .slice V.F S.nf V.cf, .int .i64 S.label] 28 (0, 0))
theorem TwoS.next {w wx wy : World} {B : Nat} {S : Sc} {V : Sv} {l : List Nat} {R : Option Addr} {c : Nat} (h : TwoS w wx B S V l R c) (hb : Below wx.heap.size wx wy) : TwoS w wy B S V l R c :=
  ⟨h.low.trans (hb.mono h.low.size), h.sx.below hb, h.sy.below hb, (hb.block _ (lt_of_block h.bx)).trans h.bx, (hb.block _ (lt_of_block h.bz)).trans h.bz⟩
theorem TwoS.drew {w wx : World} {B : Nat} {S : Sc} {V : Sv} {l : List Nat} {R : Option Addr} {c : Nat} (h : TwoS w wx B S V l R c) : TwoS w wx.drew B S V l R c := h.next (Below.refl _ _).drew
def Eight (w : World) (B : Nat) (a r r' f : Value) (k : Int) : Prop := w.cell? ⟨B, 0, none⟩ = some a ∧ w.cell? ⟨B, 1, none⟩ = some r ∧ w.cell? ⟨B, 2, none⟩ = some f ∧ w.cell? ⟨B, 3, none⟩ = some (.int .i64 k) ∧ w.cell? ⟨B + 1, 0, none⟩ = some a ∧ w.cell? ⟨B + 1, 1, none⟩ = some r' ∧ w.cell? ⟨B + 1, 2, none⟩ = some f ∧ w.cell? ⟨B + 1, 3, none⟩ = some (.int .i64 k)
theorem TwoS.eight {w wx : World} {B : Nat} {S : Sc} {V : Sv} {l : List Nat} {R : Option Addr} {c : Nat} (h : TwoS w wx B S V l R c) : Eight wx B (.slice V.A S.na V.ca) (.slice V.R S.nr V.cr) (.slice R S.nr c) (.slice V.F S.nf V.cf) S.label :=
  ⟨cell_in h.bx rfl, cell_in h.bx rfl, cell_in h.bx rfl, cell_in h.bx rfl, cell_in h.bz rfl, cell_in h.bz rfl, cell_in h.bz rfl, cell_in h.bz rfl⟩
/-- The schema with one more relation. -/
def Sc.more (S : Sc) (nm : ByteArray) (n : Nat) (x : Nat → Int) : Sc := { S with nr := S.nr + 1, rname := fun i => if i < S.nr then S.rname i else nm, rn := fun i => if i < S.nr then S.rn i else n, rat := fun i => if i < S.nr then S.rat i else x }
def Vm (S : Sc) (V : Sv) (g c : Nat) (h : Option Addr × Nat × Nat) : Sv := { V with R := some ⟨g, 0, none⟩, cr := c, L := fun i => if i < S.nr then V.L i else h }
theorem more_in {w : World} {S : Sc} {V : Sv} {P g c n c1 : Nat} {A1 : Option Addr} {nm : ByteArray} {x : Nat → Int} (h : SchIn w S V) (ho : w.ownsRow P 33 2 (.slice (some ⟨g, 0, none⟩) (S.nr + 1) c) (S.nr + 1) (relO S V (List.range S.nr) ++ [.string nm, .slice A1 n c1])) (hn : n ≤ 1000) (hx : IntAt w A1 n x) (hnm : nm.size ≤ maxLen) (hr : S.nr + 1 ≤ 1000) :
    SchIn w (S.more nm n x) (Vm S V g c (A1, n, c1)) := by
  have hg := (ho.lt g rfl).2
  have hcap := slim_capsO ho
  have hl : (relO S V (List.range S.nr)).length = S.nr * 2 := by rw [relO_len, List.length_range]
  refine { attr := h.attr, rel := fun _ => ⟨g, 0, rfl, hg, fun i hi => ?_⟩, feat := h.feat, ints := fun i hi => ?_, na := h.na, nr := hr, nf := h.nf, ca := h.ca, cr := hcap.1, cf := h.cf, cam := h.cam, crm := hcap.2, cfm := h.cfm, ns := h.ns, rs := fun i hi => ?_ }
  · have hi : i < S.nr + 1 := hi
    rw [Nat.zero_add]
    by_cases e : i < S.nr
    · have hp := relO_at (S := S) (V := V) (l := List.range S.nr) (i := i) (by simpa using e)
      have hgi : (List.range S.nr).getD i 0 = i := by simp [List.getD, e]
      rw [hgi] at hp
      show w.cell? _ = some (.string (if i < S.nr then S.rname i else nm)) ∧ w.cell? _ = some (.slice (if i < S.nr then V.L i else (A1, n, c1)).1 (if i < S.nr then V.L i else (A1, n, c1)).2.1 (if i < S.nr then V.L i else (A1, n, c1)).2.2)
      rw [if_pos e, if_pos e]
      exact ⟨(ho.cellAt _ (by omega)).trans ((List.getElem?_append_left (by rw [hl]; omega)).trans hp.1), (ho.cellAt _ (by omega)).trans ((List.getElem?_append_left (by rw [hl]; omega)).trans hp.2)⟩
    · obtain rfl : i = S.nr := by omega
      show w.cell? _ = some (.string (if S.nr < S.nr then S.rname S.nr else nm)) ∧ w.cell? _ = some (.slice (if S.nr < S.nr then V.L S.nr else (A1, n, c1)).1 (if S.nr < S.nr then V.L S.nr else (A1, n, c1)).2.1 (if S.nr < S.nr then V.L S.nr else (A1, n, c1)).2.2)
      rw [if_neg e, if_neg e]
      refine ⟨(ho.cellAt _ (by omega)).trans ((List.getElem?_append_right (by rw [hl]; omega)).trans ?_), (ho.cellAt _ (by omega)).trans ((List.getElem?_append_right (by rw [hl]; omega)).trans ?_)⟩
      · rw [hl, Nat.sub_self]; rfl
      · rw [hl, Nat.add_sub_cancel_left]; rfl
  · show (if i < S.nr then V.L i else (A1, n, c1)).2.1 = (if i < S.nr then S.rn i else n) ∧ (if i < S.nr then S.rn i else n) ≤ 1000 ∧ IntAt w (if i < S.nr then V.L i else (A1, n, c1)).1 (if i < S.nr then S.rn i else n) (if i < S.nr then S.rat i else x)
    by_cases e : i < S.nr
    · rw [if_pos e, if_pos e, if_pos e]; exact h.ints i e
    · rw [if_neg e, if_neg e, if_neg e]; exact ⟨rfl, hn, hx⟩
  · show (if i < S.nr then S.rname i else nm).size ≤ maxLen
    by_cases e : i < S.nr
    · rw [if_pos e]; exact h.rs i e
    · rw [if_neg e]; exact hnm
theorem Valid.more {S : Sc} (h : Valid S) {nm : ByteArray} {n : Nat} {x : Nat → Int} (h5 : S.nr ≤ 5) (hw : wordB nm = true) (hd : ∀ i, i < S.nr → S.rname i ≠ nm) (hn : 1 ≤ n) (hx : ∀ j, j < n → 0 ≤ x j ∧ x j < S.na) (hu : ∀ j, j + 1 < n → x j < x (j + 1)) : Valid (S.more nm n x) where
  na1 := h.na1
  na2 := h.na2
  nr1 := Nat.succ_le_succ (Nat.zero_le _)
  nr2 := Nat.succ_le_succ h5
  nf2 := h.nf2
  aw := h.aw
  ad := h.ad
  ak := h.ak
  rw i hi := by
    show wordB (if i < S.nr then S.rname i else nm) = true
    by_cases e : i < S.nr
    · rw [if_pos e]; exact h.rw i e
    · rw [if_neg e]; exact hw
  rd i j hi hj := by
    have hi : i < S.nr + 1 := hi
    show (if j < S.nr then S.rname j else nm) ≠ (if i < S.nr then S.rname i else nm)
    rw [if_pos (by omega : j < S.nr)]
    by_cases e : i < S.nr
    · rw [if_pos e]; exact h.rd i j e hj
    · rw [if_neg e]; exact hd j (by omega)
  rn i hi := by
    show 1 ≤ (if i < S.nr then S.rn i else n)
    by_cases e : i < S.nr
    · rw [if_pos e]; exact h.rn i e
    · rw [if_neg e]; exact hn
  rr i j hi hj := by
    show 0 ≤ (if i < S.nr then S.rat i else x) j ∧ (if i < S.nr then S.rat i else x) j < S.na
    have hj : j < (if i < S.nr then S.rn i else n) := hj
    by_cases e : i < S.nr
    · rw [if_pos e] at hj ⊢; exact h.rr i j e hj
    · rw [if_neg e] at hj ⊢; exact hx j hj
  ra i j hi hj := by
    show (if i < S.nr then S.rat i else x) j < (if i < S.nr then S.rat i else x) (j + 1)
    have hj : j + 1 < (if i < S.nr then S.rn i else n) := hj
    by_cases e : i < S.nr
    · rw [if_pos e] at hj ⊢; exact h.ra i j e hj
    · rw [if_neg e] at hj ⊢; exact hu j hj
  ru a ha := by
    obtain ⟨i, j, hi, hj, e⟩ := h.ru a ha
    refine ⟨i, j, Nat.lt_succ_of_lt hi, ?_, ?_⟩
    · show j < (if i < S.nr then S.rn i else n); rw [if_pos hi]; exact hj
    · show (if i < S.nr then S.rat i else x) j = a; rw [if_pos hi]; exact e
  fr := h.fr
  fs := h.fs
  fl := h.fl
  fd := h.fd
  lb := h.lb
theorem rel_news {w : World} {S : Sc} {V : Sv} {b off : Nat} (h : SchIn w S V) (hR : V.R = some ⟨b, off, none⟩) : ∀ j u, (relO S V (List.range S.nr))[j]? = some u → w.cell? ((⟨b, off, none⟩ : Addr).add j) = some u := by
  intro j u hu
  have hj : j < S.nr * 2 := by
    have := (List.getElem?_eq_some_iff.1 hu).1
    rw [relO_len, List.length_range] at this
    exact this
  obtain ⟨b', off', e, _, hc⟩ := h.rel (by omega)
  rw [hR] at e
  injection e with e
  injection e with e1 e2
  subst e1 e2
  have hi : j / 2 < S.nr := by omega
  have hp := relO_at (S := S) (V := V) (l := List.range S.nr) (i := j / 2) (by simpa using hi)
  have hgi : (List.range S.nr).getD (j / 2) 0 = j / 2 := by simp [List.getD, hi]
  rw [hgi] at hp
  rcases Nat.mod_two_eq_zero_or_one j with h0 | h0
  · have ej : j / 2 * 2 = j := by omega
    rw [ej] at hp
    have h1 := (hc (j / 2) hi).1
    rw [ej] at h1
    have e3 : ((⟨b, off, none⟩ : Addr).add j) = ⟨b, off + j, none⟩ := by simp [Addr.add]
    rw [e3, h1, ← hp.1, hu]
  · have ej : j / 2 * 2 + 1 = j := by omega
    rw [ej] at hp
    have h1 := (hc (j / 2) hi).2
    rw [show off + j / 2 * 2 + 1 = off + j by omega] at h1
    have e3 : ((⟨b, off, none⟩ : Addr).add j) = ⟨b, off + j, none⟩ := by simp [Addr.add]
    rw [e3, h1, ← hp.2, hu]
theorem relO_one (S : Sc) (V : Sv) (l : List Nat) : ∀ u, u ∈ relO S V l → u.oneCell' = true := by
  intro u hu
  unfold relO at hu
  obtain ⟨j, _, h⟩ := List.mem_flatMap.1 hu
  simp only [List.mem_cons, List.not_mem_nil, or_false] at h
  rcases h with rfl | rfl <;> rfl
end Go.Proofs.Ytiakgcaflnpmeaa
