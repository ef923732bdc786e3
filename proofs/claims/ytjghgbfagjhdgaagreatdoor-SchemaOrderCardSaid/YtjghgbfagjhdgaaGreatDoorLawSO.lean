import Derived.Test.YtjghgbfagjhdgaaGreatDoorSchW
import Derived.Deep.AppendLies
namespace Go.Proofs.YtjghgbfagjhdgaaGreatDoor
open Go Go.RowKit

def relO (S : Sc) (V : Sv) (l : List Nat) : List Value := l.flatMap fun j => [Value.string (S.rname j), .slice (V.L j).1 (V.L j).2.1 (V.L j).2.2]
theorem relO_snoc (S : Sc) (V : Sv) (l : List Nat) (j : Nat) : relO S V (l ++ [j]) = relO S V l ++ [.string (S.rname j), .slice (V.L j).1 (V.L j).2.1 (V.L j).2.2] := by simp [relO]
theorem relO_len (S : Sc) (V : Sv) (l : List Nat) : (relO S V l).length = l.length * 2 := by
  induction l with
  | nil => rfl
  | cons a l ih => simp [relO] at ih ⊢; omega
theorem relO_at {S : Sc} {V : Sv} : ∀ {l : List Nat} {i : Nat}, i < l.length → (relO S V l)[i * 2]? = some (.string (S.rname (l.getD i 0))) ∧ (relO S V l)[i * 2 + 1]? = some (.slice (V.L (l.getD i 0)).1 (V.L (l.getD i 0)).2.1 (V.L (l.getD i 0)).2.2)
  | [], i, h => absurd h (by simp)
  | a :: l, 0, _ => ⟨rfl, rfl⟩
  | a :: l, i + 1, h => by
    have ih := relO_at (S := S) (V := V) (l := l) (i := i) (by simpa using h)
    have e : relO S V (a :: l) = [.string (S.rname a), .slice (V.L a).1 (V.L a).2.1 (V.L a).2.2] ++ relO S V l := by simp [relO]
    rw [e, List.getElem?_append_right (by show 2 ≤ _; omega), List.getElem?_append_right (by show 2 ≤ _; omega)]
    have e1 : (i + 1) * 2 - [Value.string (S.rname a), .slice (V.L a).1 (V.L a).2.1 (V.L a).2.2].length = i * 2 := by simp; omega
    have e2 : (i + 1) * 2 + 1 - [Value.string (S.rname a), .slice (V.L a).1 (V.L a).2.1 (V.L a).2.2].length = i * 2 + 1 := by simp; omega
    rw [e1, e2]
    exact ih
def Vo (V : Sv) (R : Option Addr) (c : Nat) (l : List Nat) : Sv := { V with R := R, cr := c, L := fun j => V.L (l.getD j 0) }
theorem put_in {w : World} {S : Sc} {V : Sv} {l : List Nat} {P g c : Nat} (h : SchIn w S V) (hl : Ordr S.nr l) (ho : w.ownsRow P 60 2 (.slice (some ⟨g, 0, none⟩) S.nr c) S.nr (relO S V l)) (hc : S.nr ≤ c ∧ c ≤ maxLen) (hg : g < w.heap.size) :
    SchIn w (S.put l) (Vo V (some ⟨g, 0, none⟩) c l) :=
  { attr := h.attr
    rel := fun _ => ⟨g, 0, rfl, hg, fun i hi => by
      have hi : i < l.length := by rw [hl.len]; exact hi
      have := relO_at (S := S) (V := V) hi
      rw [Nat.zero_add]
      exact ⟨(ho.cellAt _ (by rw [hl.len] at hi; omega)).trans this.1, (ho.cellAt _ (by rw [hl.len] at hi; omega)).trans this.2⟩⟩
    feat := h.feat
    ints := fun i hi => h.ints _ (hl.lt hi)
    na := h.na, nr := h.nr, nf := h.nf, ca := h.ca, cr := hc.1, cf := h.cf, cam := h.cam, crm := hc.2, cfm := h.cfm, ns := h.ns
    rs := fun i hi => h.rs _ (hl.lt hi) }
structure OrdL (w0 w2 : World) (g B P n : Nat) (S : Sc) (V : Sv) (lv : Value) (l dn : List Nat) (sv : Value) (w : World) : Prop where
  low : Below w0.heap.size w0 w
  kp : Keeps w2 w (some g)
  hB : w2.heap.size = B
  h0 : w0.heap.size ≤ B
  bx : w.heap[B]? = some (.cells #[.slice V.A S.na V.ca, .slice V.R S.nr V.cr, .slice V.F S.nf V.cf, .int .i64 S.label] 56 (0, 0))
  box : w.heap[B + 1]? = some (.cells #[.slice V.A S.na V.ca, sv, .slice V.F S.nf V.cf, .int .i64 S.label] 56 (0, 0))
  lst : w.ownsRow (B + 1 + 1) 3 1 lv n (ordV l)
  lvb : ∀ k, lv.ownBlock = some k → k < P
  own : w.ownsRow P 60 2 sv dn.length (relO S V dn)
  sz : P ≤ w.heap.size
  bb : B + 1 + 1 ≤ P
def OrdT (b : Nat) (sv : Value) (w w' : World) : Prop := w.heap.size ≤ w'.heap.size ∧ ∀ k, k < w.heap.size → k ≠ b → sv.ownBlock ≠ some k → w'.heap[k]? = w.heap[k]?
theorem OrdT.same {b : Nat} {sv : Value} {w : World} : OrdT b sv w w := ⟨Nat.le_refl _, fun _ _ _ _ => rfl⟩
def RelNew (b : Nat) (sv : Value) (x y v : Value) (w : World) : Prop := ∃ g, v = .slice (some ⟨g, 0, none⟩) 1 1 ∧ w.heap[g]? = some (.cells #[x, y] 60 (0, 0)) ∧ g ≠ b ∧ sv.ownBlock ≠ some g
theorem RelNew.keep {b : Nat} {sv x y v : Value} {w w' : World} (hn : RelNew b sv x y v w) (hT : OrdT b sv w w') : RelNew b sv x y v w' := by
  obtain ⟨g, e, hg, h1, h2⟩ := hn
  exact ⟨g, e, (hT.2 g (lt_of_block hg) h1 h2).trans hg, h1, h2⟩
theorem sn {D : List Nat} {j k : Nat} (h : k ≠ j) : k ∈ D ++ [j] ↔ k ∈ D := by simp [h]
section
variable {w0 w2 w : World} {g B P n j : Nat} {S : Sc} {V : Sv} {lv sv : Value} {l dn : List Nat} {D : List Nat} {Q : Nat → Value}
theorem OrdL.alloc (h : OrdL w0 w2 g B P n S V lv l dn sv w) (o : Obj) : OrdL w0 w2 g B P n S V lv l dn sv (w.alloc o) :=
  ⟨h.low.alloc h.low.size _, h.kp.trans (Keeps.below ((Below.refl _ _).alloc (Nat.le_refl _) o) _), h.hB, h.h0, block_alloc _ h.bx, block_alloc _ h.box, h.lst.alloc _, h.lvb, h.own.alloc _, by have := h.sz; simp; omega, h.bb⟩
theorem OrdL.drew (h : OrdL w0 w2 g B P n S V lv l dn sv w) : OrdL w0 w2 g B P n S V lv l dn sv w.drew := ⟨h.low.drew, h.kp, h.hB, h.h0, h.bx, h.box, h.lst, h.lvb, h.own, h.sz, h.bb⟩
theorem OrdL.app (h : OrdL w0 w2 g B P n S V lv l dn sv w) {gR cR : Nat} {wn : World}
    (O : wn.ownsRow P 60 2 (.slice (some ⟨gR, 0, none⟩) (dn.length + 1) cR) (dn.length + 1) (relO S V dn ++ [.string (S.rname j), .slice (V.L j).1 (V.L j).2.1 (V.L j).2.2])) (G : w.grownBy wn sv.ownBlock) :
    OrdT (B + 1) sv w wn ∧ wn.heap[B]? = w.heap[B]? ∧ wn.heap[B + 1]? = w.heap[B + 1]? ∧ Below w0.heap.size w0 wn ∧ Keeps w2 wn (some g) ∧ OrdL w0 w2 g B P n S V lv l (dn ++ [j]) (.slice (some ⟨gR, 0, none⟩) (dn.length + 1) cR) (wn.setCell ⟨B + 1, 1, none⟩ (.slice (some ⟨gR, 0, none⟩) (dn.length + 1) cR)) := by
  have hR : ∀ b, sv.ownBlock = some b → P ≤ b := fun b hb => (h.own.lt b hb).1
  have hbb := h.bb
  have hhB := h.hB
  have hsz := h.sz
  have far : ∀ k, k < P → wn.heap[k]? = w.heap[k]? := fun k hk => G.block k (by omega) (fun e => by first | (have := hR k e; omega) | (have := hR k e.symm; omega))
  have hsz2 : w.heap.size ≤ wn.heap.size := ((Below.refl 0 w).grown G (Nat.zero_le _) (fun _ _ => Nat.zero_le _)).size
  have h0 := h.h0
  have hlow : Below w0.heap.size w0 wn := h.low.grown G h.low.size (fun r e => by have := hR r e; omega)
  have hkp : Keeps w2 wn (some g) := ⟨Nat.le_trans h.kp.1 hsz2, fun k hk hne => (far k (by omega)).trans (h.kp.2 k hk hne)⟩
  have hgR := (O.lt gR rfl).1
  refine ⟨⟨hsz2, fun k hk _ hne => G.block k hk (fun e => by first | exact hne e | exact hne e.symm)⟩, far B (by omega), far (B + 1) (by omega), hlow, hkp, ?_⟩
  have hlst : wn.ownsRow (B + 1 + 1) 3 1 lv n (ordV l) := h.lst.kept G (by
    cases hs : lv.ownBlock with
    | none => exact .inl rfl
    | some k => exact .inr fun e => by have := h.lvb k hs; have := hR k e.symm; omega)
  refine ⟨hlow.setCell (p := ⟨B + 1, 1, none⟩) (by show w0.heap.size ≤ B + 1; omega) _, ⟨by have := hkp.1; simp [World.setCell]; exact this, fun k hk hne => (Below.heap_setCell _ _ _ _ (by show k ≠ B + 1; omega)).trans (hkp.2 k hk hne)⟩, hhB, h0, (Below.heap_setCell _ _ _ _ (by show B ≠ B + 1; omega)).trans ((far B (by omega)).trans h.bx), heap_setCell_same _ _ _ _ _ _ ((far (B + 1) (by omega)).trans h.box), ?_, h.lvb, ?_, ?_, h.bb⟩
  · exact ownsRow_setCell_other hlst (fun e => absurd (h.lst.lt _ e).1 (by show ¬ B + 1 + 1 ≤ B + 1; omega)) _
  · rw [relO_snoc, List.length_append]
    exact ownsRow_setCell_below O (by show B + 1 < P; omega) _
  · have : (wn.setCell ⟨B + 1, 1, none⟩ (.slice (some ⟨gR, 0, none⟩) (dn.length + 1) cR)).heap.size = wn.heap.size := by simp [World.setCell]
    omega
structure OrdE (w0 w2 : World) (g B P n : Nat) (S : Sc) (V : Sv) (lv : Value) (l dn : List Nat) (j : Nat) (sv : Value) (D : List Nat) (Q : Nat → Value) (w : World) : Prop where
  low : Below w0.heap.size w0 w
  kp : Keeps w2 w (some g)
  un : 8 ∉ D → Q 8 = undef
  bx : w.heap[B]? = some (.cells #[.slice V.A S.na V.ca, .slice V.R S.nr V.cr, .slice V.F S.nf V.cf, .int .i64 S.label] 56 (0, 0))
  box : 10 ∉ D → w.heap[B + 1]? = some (.cells #[.slice V.A S.na V.ca, sv, .slice V.F S.nf V.cf, .int .i64 S.label] 56 (0, 0))
  pre : 8 ∉ D → 10 ∉ D → OrdL w0 w2 g B P n S V lv l dn sv w
  post : 8 ∈ D → 10 ∉ D → ∃ gR cR, Q 8 = .slice (some ⟨gR, 0, none⟩) (dn.length + 1) cR ∧ OrdL w0 w2 g B P n S V lv l (dn ++ [j]) (Q 8) (w.setCell ⟨B + 1, 1, none⟩ (Q 8))
  fin : 10 ∈ D → ∃ sv', OrdL w0 w2 g B P n S V lv l (dn ++ [j]) sv' w
theorem OrdE.start (h : OrdL w0 w2 g B P n S V lv l dn sv w) : OrdE w0 w2 g B P n S V lv l dn j sv [] (fun _ => undef) w.drew where
  low := h.low.drew
  kp := h.kp
  un _ := rfl
  bx := h.bx
  box _ := h.box
  pre _ _ := h.drew
  post hm := absurd hm (by simp)
  fin hm := absurd hm (by simp)
theorem OrdE.same (hE : OrdE w0 w2 g B P n S V lv l dn j sv D Q w) {i : Nat} (h8 : i ≠ 8) (h10 : i ≠ 10) (v : Value) : OrdE w0 w2 g B P n S V lv l dn j sv (D ++ [i]) (fun k => if k = i then v else Q k) w where
  low := hE.low
  kp := hE.kp
  un hm := by show (if 8 = i then v else Q 8) = undef; rw [if_neg (Ne.symm h8)]; exact hE.un fun x => hm ((sn (Ne.symm h8)).2 x)
  bx := hE.bx
  box hm := hE.box fun x => hm ((sn (Ne.symm h10)).2 x)
  pre hm hm' := hE.pre (fun x => hm ((sn (Ne.symm h8)).2 x)) fun x => hm' ((sn (Ne.symm h10)).2 x)
  post hm hm' := by
    have e : (if 8 = i then v else Q 8) = Q 8 := if_neg (Ne.symm h8)
    show ∃ gR cR, (if 8 = i then v else Q 8) = _ ∧ OrdL w0 w2 g B P n S V lv l (dn ++ [j]) (if 8 = i then v else Q 8) (w.setCell ⟨B + 1, 1, none⟩ (if 8 = i then v else Q 8))
    rw [e]
    exact hE.post ((sn (Ne.symm h8)).1 hm) fun x => hm' ((sn (Ne.symm h10)).2 x)
  fin hm := hE.fin ((sn (Ne.symm h10)).1 hm)
theorem OrdE.news (hE : OrdE w0 w2 g B P n S V lv l dn j sv D Q w) (n8 : 8 ∉ D) (n10 : 10 ∉ D) (o : Obj) (v : Value) : OrdE w0 w2 g B P n S V lv l dn j sv (D ++ [7]) (fun k => if k = 7 then v else Q k) (w.alloc o) where
  low := hE.low.alloc hE.low.size _
  kp := hE.kp.trans (Keeps.below ((Below.refl _ _).alloc (Nat.le_refl _) o) _)
  un _ := by show (if 8 = 7 then v else Q 8) = undef; rw [if_neg (by decide)]; exact hE.un n8
  bx := block_alloc _ hE.bx
  box _ := block_alloc _ (hE.box n10)
  pre _ _ := (hE.pre n8 n10).alloc _
  post hm := absurd ((sn (by decide)).1 hm) n8
  fin hm := absurd ((sn (by decide)).1 hm) n10
theorem OrdE.newsAt (hE : OrdE w0 w2 g B P n S V lv l dn j sv D Q w) (n8 : 8 ∉ D) (n10 : 10 ∉ D) (x y : Value) : RelNew (B + 1) sv x y (.slice (some ⟨w.heap.size, 0, none⟩) 1 1) (w.alloc (.cells #[x, y] 60)) := by
  have hr := hE.pre n8 n10
  refine ⟨w.heap.size, rfl, heap_alloc_new w _, ?_, fun e => ?_⟩
  · have := lt_of_block hr.box; omega
  · have := (hr.own.lt _ e).2; omega
theorem OrdE.app (hE : OrdE w0 w2 g B P n S V lv l dn j sv D Q w) (n8 : 8 ∉ D) (n10 : 10 ∉ D) {gR cR : Nat} {wn : World}
    (O : wn.ownsRow P 60 2 (.slice (some ⟨gR, 0, none⟩) (dn.length + 1) cR) (dn.length + 1) (relO S V dn ++ [.string (S.rname j), .slice (V.L j).1 (V.L j).2.1 (V.L j).2.2])) (G : w.grownBy wn sv.ownBlock) :
    OrdT (B + 1) sv w wn ∧ OrdE w0 w2 g B P n S V lv l dn j sv (D ++ [8]) (fun k => if k = 8 then .slice (some ⟨gR, 0, none⟩) (dn.length + 1) cR else Q k) wn := by
  have hr := hE.pre n8 n10
  obtain ⟨h1, h2, h3, h4, h6, h5⟩ := hr.app O G
  refine ⟨h1, ?_⟩
  exact { low := h4
          kp := h6
          un := fun hm => absurd (by simp) hm
          bx := h2.trans hr.bx
          box := fun _ => h3.trans hr.box
          pre := fun hm => absurd (by simp) hm
          post := fun _ _ => ⟨gR, cR, by simp, by
            show OrdL w0 w2 g B P n S V lv l (dn ++ [j]) (if 8 = 8 then _ else Q 8) (wn.setCell ⟨B + 1, 1, none⟩ (if 8 = 8 then _ else Q 8))
            rw [if_pos rfl]
            exact h5⟩
          fin := fun hm => absurd ((sn (by decide)).1 hm) n10 }
theorem OrdE.put (hE : OrdE w0 w2 g B P n S V lv l dn j sv D Q w) (n10 : 10 ∉ D) (hv : Q 8 ≠ undef) :
    (∃ gR cR, Q 8 = .slice (some ⟨gR, 0, none⟩) (dn.length + 1) cR) ∧ OrdT (B + 1) sv w (w.setCell ⟨B + 1, 1, none⟩ (Q 8)) ∧ ∀ u, OrdE w0 w2 g B P n S V lv l dn j sv (D ++ [10]) (fun k => if k = 10 then u else Q k) (w.setCell ⟨B + 1, 1, none⟩ (Q 8)) := by
  have m8 : 8 ∈ D := by
    rcases Classical.em (8 ∈ D) with hm | hm
    · exact hm
    · exact absurd (hE.un hm) hv
  obtain ⟨gR, cR, e, hl⟩ := hE.post m8 n10
  refine ⟨⟨gR, cR, e⟩, ⟨Nat.le_of_eq (by simp [World.setCell]), fun k _ hk _ => Below.heap_setCell _ _ _ _ (by show k ≠ B + 1; exact hk)⟩, fun u => ?_⟩
  exact { low := hl.low
          kp := hl.kp
          un := fun hm => absurd (List.mem_append_left _ m8) hm
          bx := hl.bx
          box := fun hm => absurd (by simp) hm
          pre := fun hm => absurd (List.mem_append_left _ m8) hm
          post := fun _ hm => absurd (by simp) hm
          fin := fun _ => ⟨_, hl⟩ }
end
theorem ord_two (w : World) (x y : Obj) : ((w.alloc x).alloc y).heap[w.heap.size]? = some x ∧ ((w.alloc x).alloc y).heap[w.heap.size + 1]? = some y ∧ Below w.heap.size w ((w.alloc x).alloc y) ∧ ((w.alloc x).alloc y).heap.size = w.heap.size + 1 + 1 :=
  ⟨block_alloc _ (heap_alloc_new w _), block_new _ (by simp), ((Below.refl _ _).alloc (Nat.le_refl _) x).alloc (by simp) y, by simp⟩
theorem slim_capsO {w : World} {P n size g cap : Nat} {e : TypeId} {ys : List Value} (h : w.ownsRow P e size (.slice (some ⟨g, 0, none⟩) n cap) n ys) : n ≤ cap ∧ cap ≤ maxLen := by
  rcases h.2 with ⟨h', _⟩ | ⟨g', cap', cur, h', _, _, h3, h4, _⟩
  · simp at h'
  · injection h' with _ _ h5
    subst h5
    exact ⟨h3, h4⟩
theorem chk_put {W : World} {S : Sc} {V : Sv} {l : List Nat} {R : Option Addr} {c : Nat} (h : SchIn W (S.put l) (Vo V R c l)) (hv : Valid S) (hl : Ordr S.nr l) :
    Calls Tryz.prog 36 #[.agg #[.slice V.A S.na V.ca, .slice R S.nr c, .slice V.F S.nf V.cf, .int .i64 S.label]] W fun e w' => e = .returned (.int .i64 0) ∧ Below W.heap.size W w' := by
  have h1 := check_any h
  rw [(hv.put hl).check] at h1
  exact h1
theorem chk_x {W : World} {S : Sc} {V : Sv} (h : SchIn W S V) (hv : Valid S) :
    Calls Tryz.prog 36 #[.agg #[.slice V.A S.na V.ca, .slice V.R S.nr V.cr, .slice V.F S.nf V.cf, .int .i64 S.label]] W fun e w' => e = .returned (.int .i64 0) ∧ Below W.heap.size W w' := by
  have h1 := check_any h
  rw [hv.check] at h1
  exact h1
theorem joined_put {W : World} {S : Sc} {V : Sv} {l : List Nat} {R : Option Addr} {c : Nat} (h : SchIn W (S.put l) (Vo V R c l)) (hv : Valid S) (hl : Ordr S.nr l) :
    Calls Tryz.prog 38 #[.agg #[.slice V.A S.na V.ca, .slice R S.nr c, .slice V.F S.nf V.cf, .int .i64 S.label]] W fun e w' => ∃ v, e = .returned v ∧ ListAt w' v (joinedL S) ∧ Below W.heap.size W w' := by
  have h1 := joined_any h (hv.put hl).check
  rw [put_joined hl] at h1
  exact h1
set_option maxRecDepth 100000 in
theorem numbers_put {W : World} {S : Sc} {V : Sv} {l : List Nat} {R : Option Addr} {c : Nat} (h : SchIn W (S.put l) (Vo V R c l)) (hv : Valid S) (hl : Ordr S.nr l) :
    Calls Tryz.prog 39 #[.agg #[.slice V.A S.na V.ca, .slice R S.nr c, .slice V.F S.nf V.cf, .int .i64 S.label]] W fun e w' => ∃ v, e = .returned v ∧ ListAt w' v (numbersL S) ∧ Below W.heap.size W w' := by
  have h1 := numbers_any h (hv.put hl).check
  rw [put_numbers] at h1
  exact h1
theorem uses_x {W : World} {S : Sc} {V : Sv} {a : Nat} {k : Int} (h : SchIn W S V) (hv : Valid S) (hk : k = ((usesL S (a : Int)).length : Int)) :
    Calls Tryz.prog 40 #[.agg #[.slice V.A S.na V.ca, .slice V.R S.nr V.cr, .slice V.F S.nf V.cf, .int .i64 S.label], .int .i64 (a : Int)] W fun e w' => ∃ A n c, e = .returned (.slice A n c) ∧ (n : Int) = k ∧ Below W.heap.size W w' := by
  refine (uses_any h hv.check).mono ?_
  rintro e w' ⟨v, rfl, ⟨A, c', rfl, _⟩, hb⟩
  exact ⟨A, _, c', rfl, hk.symm, hb⟩
theorem uses_put {W : World} {S : Sc} {V : Sv} {l : List Nat} {R : Option Addr} {c a : Nat} {k : Int} (h : SchIn W (S.put l) (Vo V R c l)) (hv : Valid S) (hl : Ordr S.nr l) (hk : k = ((usesL S (a : Int)).length : Int)) :
    Calls Tryz.prog 40 #[.agg #[.slice V.A S.na V.ca, .slice R S.nr c, .slice V.F S.nf V.cf, .int .i64 S.label], .int .i64 (a : Int)] W fun e w' => ∃ A n c, e = .returned (.slice A n c) ∧ (n : Int) = k ∧ Below W.heap.size W w' := by
  refine (uses_any h (hv.put hl).check).mono ?_
  rintro e w' ⟨v, rfl, ⟨A, c', rfl, _⟩, hb⟩
  exact ⟨A, _, c', rfl, by rw [put_uses hl]; exact hk.symm, hb⟩
theorem linked_x {W : World} {S : Sc} {V : Sv} {a b : Int} {q : Bool} (h : SchIn W S V) (hv : Valid S) (hq : linkedB S a b = q) :
    Calls Tryz.prog 41 #[.agg #[.slice V.A S.na V.ca, .slice V.R S.nr V.cr, .slice V.F S.nf V.cf, .int .i64 S.label], .int .i64 a, .int .i64 b] W fun e w' => e = .returned (.bool q) ∧ Below W.heap.size W w' := by
  subst hq
  exact linked_any h hv.check
theorem linked_put {W : World} {S : Sc} {V : Sv} {l : List Nat} {R : Option Addr} {c : Nat} {a b : Int} {q : Bool} (h : SchIn W (S.put l) (Vo V R c l)) (hv : Valid S) (hl : Ordr S.nr l) (hq : linkedB S a b = q) :
    Calls Tryz.prog 41 #[.agg #[.slice V.A S.na V.ca, .slice R S.nr c, .slice V.F S.nf V.cf, .int .i64 S.label], .int .i64 a, .int .i64 b] W fun e w' => e = .returned (.bool q) ∧ Below W.heap.size W w' := by
  subst hq
  have h1 := linked_any (a := a) (b := b) h (hv.put hl).check
  rw [put_linked hl] at h1
  exact h1
structure TwoS (w wx : World) (B : Nat) (S : Sc) (V : Sv) (l : List Nat) (R : Option Addr) (c : Nat) : Prop where
  low : Below w.heap.size w wx
  sx : SchIn wx S V
  sy : SchIn wx (S.put l) (Vo V R c l)
  bx : wx.heap[B]? = some (.cells #[.slice V.A S.na V.ca, .slice V.R S.nr V.cr, .slice V.F S.nf V.cf, .int .i64 S.label] 56 (0, 0))
  bz : wx.heap[B + 1]? = some (.cells #[.slice V.A S.na V.ca, .slice R S.nr c, .slice V.F S.nf V.cf, .int .i64 S.label] 56 (0, 0))
theorem TwoS.next {w wx wy : World} {B : Nat} {S : Sc} {V : Sv} {l : List Nat} {R : Option Addr} {c : Nat} (h : TwoS w wx B S V l R c) (hb : Below wx.heap.size wx wy) : TwoS w wy B S V l R c :=
  ⟨h.low.trans (hb.mono h.low.size), h.sx.below hb, h.sy.below hb, (hb.block _ (lt_of_block h.bx)).trans h.bx, (hb.block _ (lt_of_block h.bz)).trans h.bz⟩
theorem TwoS.drew {w wx : World} {B : Nat} {S : Sc} {V : Sv} {l : List Nat} {R : Option Addr} {c : Nat} (h : TwoS w wx B S V l R c) : TwoS w wx.drew B S V l R c := h.next (Below.refl _ _).drew
def Eight (w : World) (B : Nat) (a r r' f : Value) (k : Int) : Prop := w.cell? ⟨B, 0, none⟩ = some a ∧ w.cell? ⟨B, 1, none⟩ = some r ∧ w.cell? ⟨B, 2, none⟩ = some f ∧ w.cell? ⟨B, 3, none⟩ = some (.int .i64 k) ∧ w.cell? ⟨B + 1, 0, none⟩ = some a ∧ w.cell? ⟨B + 1, 1, none⟩ = some r' ∧ w.cell? ⟨B + 1, 2, none⟩ = some f ∧ w.cell? ⟨B + 1, 3, none⟩ = some (.int .i64 k)
theorem TwoS.eight {w wx : World} {B : Nat} {S : Sc} {V : Sv} {l : List Nat} {R : Option Addr} {c : Nat} (h : TwoS w wx B S V l R c) : Eight wx B (.slice V.A S.na V.ca) (.slice V.R S.nr V.cr) (.slice R S.nr c) (.slice V.F S.nf V.cf) S.label :=
  ⟨cell_in h.bx rfl, cell_in h.bx rfl, cell_in h.bx rfl, cell_in h.bx rfl, cell_in h.bz rfl, cell_in h.bz rfl, cell_in h.bz rfl, cell_in h.bz rfl⟩
set_option linter.unusedSimpArgs false in
set_option maxHeartbeats 6400000 in
set_option maxRecDepth 100000 in
theorem law_sorder {w : World} {A : Option Addr} {n c : Nat} (hm : Lx w) (h : Nums w A n) (hc : n ≤ c) (hcm : c ≤ maxLen) :
    Calls Tryz.prog 8 #[.slice A n c] w fun e w' => e = .returned (.bool true) ∧ Below w.heap.size w w' := by
  obtain ⟨er, hi, hz, hss, hbs⟩ := info_parts infoRel
  have HIR := Lib.hid (And.intro hi (And.intro hz (And.intro hss hbs)))
  clear hi hz hss hbs
  have H := Lib.hid (And.intro hm h)
  clear hm h
  by_cases g0 : 300 < n
  · have g0i : (300 : Int) < (n : Int) := by omega
    go_enter Tryz.func8, Tryz.ntmps8
    go_wp2_with fail
    refine (sane05 H.out.1).mono ?_
    rintro e w1 ⟨rfl, hb⟩
    go_wp2
    go_ret
    exact ⟨rfl, hb⟩
  · have g0i : ¬ (300 : Int) < (n : Int) := by omega
    go_enter Tryz.func8, Tryz.ntmps8
    go_wp2_with fail
    refine (new_any H.out.2 hc hcm).mono ?_
    rintro e w1 ⟨g, rfl, hgl, hs, hb⟩
    have H1 := Lib.hid (And.intro hb (And.intro hgl hs))
    have HG := Lib.hid (show w.heap.size ≤ g from hgl)
    clear hb hgl hs
    go_wp2_with fail
    refine (schema_src H1.out.2.2).mono ?_
    rintro e w2 ⟨v, rfl, S, ⟨A0, ca0, R0, cr0, F0, cf0, L0⟩, rfl, hin, hval, hna, hs2, hk, hkp⟩
    have hv0 := hval.check
    have hna1 := hval.na1
    have hnr1 := hval.nr1
    have hnr6 := hval.nr2
    obtain ⟨b, off, eA, _, _⟩ := hin.attr (by omega)
    replace eA : A0 = some ⟨b, off, none⟩ := eA
    subst eA
    obtain ⟨bR, oR, eR, hbR, hcR⟩ := hin.rel (by omega)
    replace eR : R0 = some ⟨bR, oR, none⟩ := eR
    subst eR
    have HV := Lib.hid (And.intro hval hv0)
    have H2 := Lib.hid (And.intro (H1.out.1.trans (hk.1.mono H1.out.2.1)) (And.intro hin (And.intro hs2 (And.intro hkp (And.intro hbR hcR)))))
    have hgw2 := hs2.lt
    clear hin hval hs2 hk hv0 hbR hcR hkp H1
    go_upto_region 7 with fail
    obtain ⟨VV, hVV⟩ : ∃ VV : Sv, VV = ⟨some ⟨b, off, none⟩, ca0, some ⟨bR, oR, none⟩, cr0, F0, cf0, L0⟩ := ⟨_, rfl⟩
    obtain ⟨X, hX⟩ : ∃ X : Obj, X = .cells #[.slice (some ⟨b, off, none⟩) S.na ca0, .slice (some ⟨bR, oR, none⟩) S.nr cr0, .slice F0 S.nf cf0, .int .i64 S.label] 56 := ⟨_, rfl⟩
    obtain ⟨Y, hY⟩ : ∃ Y : Obj, Y = .cells #[.slice (some ⟨b, off, none⟩) S.na ca0, .slice none 0 0, .slice F0 S.nf cf0, .int .i64 S.label] 56 := ⟨_, rfl⟩
    obtain ⟨hbx, hby, hlow, hsz1⟩ := ord_two w2 X Y
    rw [← hX, ← hY]
    generalize (w2.alloc X).alloc Y = W1 at *
    rw [hX] at hbx
    rw [hY] at hby
    have c1 := cell_in hbx (j := 1) rfl
    clear hX hY
    have H3 := Lib.hid (And.intro hbx (And.intro hby (And.intro hlow (srcBelowB H2.out.2.2.1 hlow hgw2))))
    clear hbx hby hlow
    go_wp2_with fail
    refine (shuffle_src H3.out.2.2.2 (by omega)).mono ?_
    rintro e w4 ⟨lv, l, rfl, O, hord, hs4, hk4⟩
    have hol := hord.len
    obtain ⟨gl, cl, hlv, hgl1, hgl2⟩ := O.form (by omega)
    subst hlv
    have hsz4 : w2.heap.size + 1 + 1 ≤ w4.heap.size := by have h1 := Nat.lt_of_le_of_lt hgl1 hgl2; omega
    have hkp2 : Keeps w2 w4 (some g) := (Keeps.below H3.out.2.2.1 _).trans (Keeps.src hk4)
    have hsch : ∀ W, Keeps w2 W (some g) → SchIn W S VV := by rw [hVV]; exact H2.out.2.2.2.1
    have hlw : Below w.heap.size w w4 := by
      have h1 : Below w.heap.size w W1 := H2.out.1.trans (H3.out.2.2.1.mono H2.out.1.size)
      exact h1.trans (hk4.1.mono HG.out)
    have hOL : OrdL w w2 g w2.heap.size w4.heap.size S.nr S VV (.slice (some ⟨gl, 0, none⟩) S.nr cl) l [] (.slice none 0 0) w4 := by
      refine ⟨hlw, hkp2, rfl, H2.out.1.size, ?_, ?_, by rw [← hsz1]; exact O, fun k e => ?_, World.ownsRow_nil _ _ _ _, Nat.le_refl _, hsz4⟩
      · rw [hVV]; exact (hk4.2 _ (lt_of_block H3.out.1) (by omega)).trans H3.out.1
      · rw [hVV]; exact (hk4.2 _ (lt_of_block H3.out.2.1) (by omega)).trans H3.out.2.1
      · obtain rfl : gl = k := by simpa [Value.ownBlock] using e
        exact hgl2
    obtain ⟨P, hbase⟩ : ∃ P, P = w4.heap.size := ⟨_, rfl⟩
    rw [← hbase] at hOL
    have HO := Lib.hid (And.intro hOL (And.intro hord hsch))
    have hlen := hord.len
    have HL := Lib.hid hlen
    clear O hord hs4 hk4 hkp2 hsch hlw hOL hbase c1 hsz1 hgl1 hgl2 H3 hgw2 hlen hol
    go_wp2_with fail
    go_loopg [26] S.nr (fun gg s26 wx => ∃ (i : Nat) (sv : Value), i + gg = S.nr ∧ s26 = .int .i64 (i : Int) ∧ Hid (OrdL w w2 g w2.heap.size P S.nr S VV (.slice (some ⟨gl, 0, none⟩) S.nr cl) l (l.take i) sv wx))
    case atStart => exact ⟨0, _, by omega, rfl, Lib.hid HO.out.1⟩
    case round =>
      obtain ⟨i, sv, hi, rfl, HR⟩ := hrel
      by_cases hlt : i < S.nr
      · obtain ⟨j, hj⟩ : ∃ j, j = l.getD i 0 := ⟨_, rfl⟩
        have hjn : j < S.nr := by rw [hj]; exact HO.out.2.1.lt hlt
        have cl0 : wr.cell? ⟨gl, i, none⟩ = some (.int .i64 (j : Int)) := by rw [hj]; exact (HR.out.lst.cellAt i (by omega)).trans (ordV_at (by rw [HL.out]; exact hlt))
        have g0 : (0 : Int) ≤ (j : Int) := by omega
        have g1 : (j : Int) < (S.nr : Int) := by omega
        obtain ⟨dn, hdn⟩ : ∃ dn, dn = l.take i := ⟨_, rfl⟩
        have hdl : dn.length ≤ 6 := by rw [hdn, List.length_take]; omega
        have htk : l.take (i + 1) = dn ++ [j] := by
          have hil : i < l.length := by rw [HL.out]; exact hlt
          rw [List.take_succ_eq_append_getElem hil, hdn, hj]
          simp [List.getD, hil]
        rw [← hdn] at HR
        have hrel2 : ∀ W, Keeps w2 W (some g) → W.cell? ⟨bR, oR + j * 2, none⟩ = some (.string (S.rname j)) ∧ W.cell? ⟨bR, oR + j * 2 + 1, none⟩ = some (.slice (VV.L j).1 (VV.L j).2.1 (VV.L j).2.2) := fun W hW => by
          obtain ⟨b', o', e', _, hc'⟩ := (HO.out.2.2 W hW).rel (by omega)
          rw [hVV] at e'
          injection e' with e'
          injection e' with e1 e2
          rw [e1, e2]
          exact hc' j hjn
        obtain ⟨nm, hnm⟩ : ∃ nm, nm = S.rname j := ⟨_, rfl⟩
        rcases hLj : VV.L j with ⟨A1, l1, k1⟩
        rw [← hnm, hLj] at hrel2
        have HN := Lib.hid (show Value.string nm = .string (S.rname j) ∧ Value.slice A1 l1 k1 = .slice (VV.L j).1 (VV.L j).2.1 (VV.L j).2.2 ∧ ∀ W, Keeps w2 W (some g) → W.cell? ⟨bR, oR + j * 2, none⟩ = some (.string nm) ∧ W.cell? ⟨bR, oR + j * 2 + 1, none⟩ = some (.slice A1 l1 k1) from ⟨by rw [hnm], by rw [hLj], hrel2⟩)
        have HT := Lib.hid htk
        have HVV := Lib.hid hVV
        clear hj hdn htk hrel2 hnm hLj
        go_upto_region 10 with fail
        refine RelV.region_full0 11 [0, 1, 2, 3, 4, 5, 6, 7, 8, 9, 10] rfl rfl (R := [fun v _ => v = .pointer (some ⟨w2.heap.size + 1, 1, none⟩), fun v _ => v = sv, fun v _ => v = .pointer (some ⟨w2.heap.size, 1, none⟩), fun v _ => v = .slice (some ⟨bR, oR, none⟩) S.nr cr0, fun v _ => v = .int .i64 (j : Int), fun v _ => v = .pointer (some ⟨bR, oR + j * 2, none⟩), fun v _ => v = .agg #[.string nm, .slice A1 l1 k1], RelNew (w2.heap.size + 1) sv (.string nm) (.slice A1 l1 k1), fun v _ => v ≠ undef, fun v _ => v = .pointer (some ⟨w2.heap.size + 1, 1, none⟩), fun _ _ => True])
          (E := OrdE w w2 g w2.heap.size P S.nr S VV (.slice (some ⟨gl, 0, none⟩) S.nr cl) l dn j sv) (T := OrdT (w2.heap.size + 1) sv) (by kernel_rfl) (by kernel_rfl) (OrdE.start HR.out) ?_ ?_ ?_
        · intro D Q q u1 u2 u3 hq hE hT hv
          match q, hq with
          | 7, _ => exact RelNew.keep hv hT
          | 0, _ | 1, _ | 2, _ | 3, _ | 4, _ | 5, _ | 6, _ | 8, _ | 9, _ | 10, _ => exact hv
          | q + 11, hq => exact absurd hq (by omega)
        · refine RelV.Steps.cons (L := []) rfl (by kernel_rfl) ?_ ?_
          · intro Q w' D hE hF hR K hK
            simp only [Rel.putL, Rel.dst, z1, z2, z3, z4, Act.put, z5, z6, z7] at hK ⊢
            go_simp
            exact hK _ _ rfl OrdT.same (hE.same (by decide) (by decide) _)
          refine RelV.Steps.cons (L := [0]) rfl (by kernel_rfl) ?_ ?_
          · intro Q w' D hE hF hR K hK
            have d0 : Q 0 = .pointer (some ⟨w2.heap.size + 1, 1, none⟩) := hR.1
            have n10 : 10 ∉ D := hF.not (by kernel_rfl)
            have c1 : w'.cell? ⟨w2.heap.size + 1, 1, none⟩ = some sv := cell_in (hE.box n10) rfl
            simp only [Rel.putL, Rel.dst, z1, z2, z3, z4, Act.put, z5, z6, z7, d0] at hK ⊢
            go_simp
            exact hK _ _ rfl OrdT.same (hE.same (by decide) (by decide) _)
          refine RelV.Steps.cons (L := []) rfl (by kernel_rfl) ?_ ?_
          · intro Q w' D hE hF hR K hK
            simp only [Rel.putL, Rel.dst, z1, z2, z3, z4, Act.put, z5, z6, z7] at hK ⊢
            go_simp
            exact hK _ _ rfl OrdT.same (hE.same (by decide) (by decide) _)
          refine RelV.Steps.cons (L := [2]) rfl (by kernel_rfl) ?_ ?_
          · intro Q w' D hE hF hR K hK
            have d2 : Q 2 = .pointer (some ⟨w2.heap.size, 1, none⟩) := hR.1
            have c1 : w'.cell? ⟨w2.heap.size, 1, none⟩ = some (.slice (some ⟨bR, oR, none⟩) S.nr cr0) := by have h1 := cell_in hE.bx (j := 1) rfl; rw [HVV.out] at h1; exact h1
            simp only [Rel.putL, Rel.dst, z1, z2, z3, z4, Act.put, z5, z6, z7, d2] at hK ⊢
            go_simp
            exact hK _ _ rfl OrdT.same (hE.same (by decide) (by decide) _)
          refine RelV.Steps.cons (L := []) rfl (by kernel_rfl) ?_ ?_
          · intro Q w' D hE hF hR K hK
            simp only [Rel.putL, Rel.dst, z1, z2, z3, z4, Act.put, z5, z6, z7] at hK ⊢
            go_simp
            exact hK _ _ rfl OrdT.same (hE.same (by decide) (by decide) _)
          refine RelV.Steps.cons (L := [3, 4]) rfl (by kernel_rfl) ?_ ?_
          · intro Q w' D hE hF hR K hK
            have d3 : Q 3 = .slice (some ⟨bR, oR, none⟩) S.nr cr0 := hR.1
            have d4 : Q 4 = .int .i64 (j : Int) := hR.2.1
            simp only [Rel.putL, Rel.dst, z1, z2, z3, z4, Act.put, z5, z6, z7, d3, d4] at hK ⊢
            go_simp
            exact hK _ _ rfl OrdT.same (hE.same (by decide) (by decide) _)
          refine RelV.Steps.cons (L := [5]) rfl (by kernel_rfl) ?_ ?_
          · intro Q w' D hE hF hR K hK
            have d5 : Q 5 = .pointer (some ⟨bR, oR + j * 2, none⟩) := hR.1
            have c1 := (HN.out.2.2 w' hE.kp).1
            have c2 := (HN.out.2.2 w' hE.kp).2
            simp only [Rel.putL, Rel.dst, z1, z2, z3, z4, Act.put, z5, z6, z7, d5] at hK ⊢
            go_simp
            exact hK _ _ rfl OrdT.same (hE.same (by decide) (by decide) _)
          refine RelV.Steps.cons (L := [6]) rfl (by kernel_rfl) ?_ ?_
          · intro Q w' D hE hF hR K hK
            have d6 : Q 6 = .agg #[.string nm, .slice A1 l1 k1] := hR.1
            have n8 : 8 ∉ D := hF.not (by kernel_rfl)
            have n10 : 10 ∉ D := hF.not (by kernel_rfl)
            simp only [Rel.putL, Rel.dst, z1, z2, z3, z4, Act.put, z5, z6, z7, d6] at hK ⊢
            go_simp
            exact hK _ _ (hE.newsAt n8 n10 _ _) ⟨by simp, fun k hk _ _ => Below.heap_alloc _ _ _ (by omega)⟩ (hE.news n8 n10 _ _)
          refine RelV.Steps.cons (L := [1, 7]) rfl (by kernel_rfl) ?_ ?_
          · intro Q w' D hE hF hR K hK
            have d1 : Q 1 = sv := hR.1
            obtain ⟨g7, d7, hg7, _, _⟩ := hR.2.1
            have n8 : 8 ∉ D := hF.1
            have n10 : 10 ∉ D := hF.not (by kernel_rfl)
            have hr := hE.pre n8 n10
            simp only [Rel.putL, Rel.dst, z1, z2, z3, z4, Act.put, z5, z6, z7, d1, d7] at hK ⊢
            refine wp_append_lies _ (.tmp 31) (.tmp 37) 53 (by rfl) P 60 er (.agg #[.string ⟨#[]⟩, .slice none 0 0]) 2 40 Tryz.underlying53 HIR.out.1 HIR.out.2.1 HIR.out.2.2.1 HIR.out.2.2.2 rfl (by omega) sv dn.length (relO S VV dn) (by rfl) hr.own ⟨g7, 0, none⟩ 1 1 [.string nm, .slice A1 l1 k1] (by rfl) (by rfl) (World.news_of_block (cs := #[.string nm, .slice A1 l1 k1]) (t := 60) (fr := (0, 0)) hg7) (by simp [Value.oneCell']) (by omega) (by unfold maxLen; omega) (by omega) hr.sz w'.heap.size rfl ?_
            intro gR cR wn O G _ _
            rw [HN.out.1, HN.out.2.1] at O
            obtain ⟨hT, hE2⟩ := hE.app n8 n10 O G
            exact hK _ _ (by intro e; cases e) hT hE2
          refine RelV.Steps.cons (L := []) rfl (by kernel_rfl) ?_ ?_
          · intro Q w' D hE hF hR K hK
            simp only [Rel.putL, Rel.dst, z1, z2, z3, z4, Act.put, z5, z6, z7] at hK ⊢
            go_simp
            exact hK _ _ rfl OrdT.same (hE.same (by decide) (by decide) _)
          refine RelV.Steps.cons (L := [9, 8]) rfl (by kernel_rfl) ?_ ?_
          · intro Q w' D hE hF hR K hK
            have d9 : Q 9 = .pointer (some ⟨w2.heap.size + 1, 1, none⟩) := hR.1
            have d8 : Q 8 ≠ undef := hR.2.1
            have n10 : 10 ∉ D := hF.1
            obtain ⟨⟨gR, cR, e8⟩, hT, hE2⟩ := hE.put n10 d8
            have c2 : w'.cell? ⟨w2.heap.size + 1, 1, none⟩ = some sv := cell_in (hE.box n10) rfl
            have f2 : w'.frozen? ⟨w2.heap.size + 1, 1, none⟩ = false := by simp [World.frozen?, hE.box n10]
            rw [e8] at hT hE2
            simp only [Rel.putL, Rel.dst, z1, z2, z3, z4, Act.put, z5, z6, z7, d9, e8] at hK ⊢
            go_simp
            exact hK undef (w'.setCell ⟨w2.heap.size + 1, 1, none⟩ (.slice (some ⟨gR, 0, none⟩) (dn.length + 1) cR)) trivial hT (hE2 _)
          exact RelV.Steps.done
        · intro Q Wx D hD hE hR
          obtain ⟨sv', hL⟩ := hE.fin ((hD 10).2 (by omega))
          rw [← HT.out] at hL
          have HL2 := Lib.hid hL
          simp only [Rel.putL, Rel.dst, z1, z2, z3, z4, Act.put, z5, z6, z7]
          clear hR hE hD hL HR cl0
          go_wp2_with fail
          go_roundg (S.nr - (i + 1))
          case measure => omega
          case rel => exact ⟨i + 1, sv', by omega, by go_num, HL2⟩
      · have ein : i = S.nr := by omega
        subst ein
        have hsx := HO.out.2.2 wr HR.out.kp
        have htl : l.take S.nr = l := by rw [← HL.out, List.take_length]
        have hOL := HR.out
        rw [htl] at hOL
        have hll := HL.out
        have O := hOL.own
        rw [hll] at O
        obtain ⟨gR, cR, rfl, _, hgR⟩ := O.form (by omega)
        have hcR := slim_capsO O
        have hsy := put_in hsx HO.out.2.1 O hcR hgR
        have HT := Lib.hid (show TwoS w wr w2.heap.size S VV l (some ⟨gR, 0, none⟩) cR from ⟨hOL.low, hsx, hsy, hOL.bx, hOL.box⟩)
        have HVO := Lib.hid (And.intro HV.out.1 HO.out.2.1)
        clear hsx htl hOL hll O hcR hsy hgR HR HO HL HV H2 HIR
        subst hVV
        go_upto_region 12 with fail
        go_cut [64] (fun s64 wy => s64 = .bool false ∧ Hid (TwoS w wy w2.heap.size S ⟨some ⟨b, off, none⟩, ca0, some ⟨bR, oR, none⟩, cr0, F0, cf0, L0⟩ l (some ⟨gR, 0, none⟩) cR))
        case first =>
          have hD := HT.out.drew
          obtain ⟨a0, a1, a2, a3, b0, b1, b2, b3⟩ := hD.eight
          go_region_held3 (fun w' => w'.cell? ⟨w2.heap.size, 0, none⟩ = some (.slice (some ⟨b, off, none⟩) S.na ca0) ∧ w'.cell? ⟨w2.heap.size, 1, none⟩ = some (.slice (some ⟨bR, oR, none⟩) S.nr cr0) ∧ w'.cell? ⟨w2.heap.size, 2, none⟩ = some (.slice F0 S.nf cf0) ∧ w'.cell? ⟨w2.heap.size, 3, none⟩ = some (.int .i64 S.label) ∧ w'.cell? ⟨w2.heap.size + 1, 0, none⟩ = some (.slice (some ⟨b, off, none⟩) S.na ca0) ∧ w'.cell? ⟨w2.heap.size + 1, 1, none⟩ = some (.slice (some ⟨gR, 0, none⟩) S.nr cR) ∧ w'.cell? ⟨w2.heap.size + 1, 2, none⟩ = some (.slice F0 S.nf cf0) ∧ w'.cell? ⟨w2.heap.size + 1, 3, none⟩ = some (.int .i64 S.label))
            (first | exact q8.eight | exact q7.eight | exact q6.eight | exact q5.eight | exact q4.eight | exact q3.eight | exact q2.eight | exact q1.eight | exact hD.eight)
            (first
              | (go_at_call 36; go_split_ands; ((with_reducible refine (chk_x (V := ⟨some ⟨b, off, none⟩, ca0, some ⟨bR, oR, none⟩, cr0, F0, cf0, L0⟩) hD.sx HVO.out.1).mono ?_); rintro e v1 ⟨rfl, hb1⟩; have q1 := hD.next hb1))
              | (go_at_call 36; go_split_ands; ((with_reducible refine (chk_put (V := ⟨some ⟨b, off, none⟩, ca0, some ⟨bR, oR, none⟩, cr0, F0, cf0, L0⟩) q1.sy HVO.out.1 HVO.out.2).mono ?_); rintro e v2 ⟨rfl, hb2⟩; have q2 := q1.next hb2))
              | (go_at_call 38; go_split_ands; ((with_reducible refine (joined_any (V := ⟨some ⟨b, off, none⟩, ca0, some ⟨bR, oR, none⟩, cr0, F0, cf0, L0⟩) q2.sx HVO.out.1.check).mono ?_); rintro e v3 ⟨x1, rfl, y1, hb3⟩; have q3 := q2.next hb3))
              | (go_at_call 38; go_split_ands; ((with_reducible refine (joined_put (V := ⟨some ⟨b, off, none⟩, ca0, some ⟨bR, oR, none⟩, cr0, F0, cf0, L0⟩) q3.sy HVO.out.1 HVO.out.2).mono ?_); rintro e v4 ⟨x2, rfl, y2, hb4⟩; have q4 := q3.next hb4))
              | (go_at_call 37; go_split_ands; ((with_reducible refine (ints_same (y1.below hb4) y2).mono ?_); rintro e v5 ⟨rfl, hb5⟩; have q5 := q4.next hb5))
              | (go_at_call 39; go_split_ands; ((with_reducible refine (numbers_any (V := ⟨some ⟨b, off, none⟩, ca0, some ⟨bR, oR, none⟩, cr0, F0, cf0, L0⟩) q5.sx HVO.out.1.check).mono ?_); rintro e v6 ⟨x3, rfl, y3, hb6⟩; have q6 := q5.next hb6))
              | (go_at_call 39; go_split_ands; ((with_reducible refine (numbers_put (V := ⟨some ⟨b, off, none⟩, ca0, some ⟨bR, oR, none⟩, cr0, F0, cf0, L0⟩) q6.sy HVO.out.1 HVO.out.2).mono ?_); rintro e v7 ⟨x4, rfl, y4, hb7⟩; have q7 := q6.next hb7))
              | (go_at_call 37; go_split_ands; ((with_reducible refine (ints_same (y3.below hb7) y4).mono ?_); rintro e v8 ⟨rfl, hb8⟩; have q8 := q7.next hb8)))
          go_wp2_with fail
          go_meet
          exact ⟨rfl, Lib.hid q8⟩
        clear HT
        obtain ⟨rfl, HT⟩ := hcut
        have c0 : wc.cell? ⟨w2.heap.size, 0, none⟩ = some (.slice (some ⟨b, off, none⟩) S.na ca0) := HT.out.eight.1
        go_wp2_with fail
        clear c0
        go_loopg [68] S.na (fun gg s68 wx => ∃ a : Nat, a + gg = S.na ∧ s68 = .int .i64 (a : Int) ∧ Hid (TwoS w wx w2.heap.size S ⟨some ⟨b, off, none⟩, ca0, some ⟨bR, oR, none⟩, cr0, F0, cf0, L0⟩ l (some ⟨gR, 0, none⟩) cR))
        case atStart => exact ⟨0, by omega, rfl, HT⟩
        case round =>
          clear HT
          obtain ⟨a, ha, rfl, HR⟩ := hrel
          by_cases hla : a < S.na
          · obtain ⟨k, hk⟩ : ∃ k : Int, k = ((usesL S (a : Int)).length : Int) := ⟨_, rfl⟩
            have HK := Lib.hid hk
            clear hk
            go_upto_region 17 with fail
            go_cut [79] (fun s79 wy => s79 = .bool false ∧ Hid (TwoS w wy w2.heap.size S ⟨some ⟨b, off, none⟩, ca0, some ⟨bR, oR, none⟩, cr0, F0, cf0, L0⟩ l (some ⟨gR, 0, none⟩) cR))
            case first =>
              have hD := HR.out.drew
              obtain ⟨a0, a1, a2, a3, b0, b1, b2, b3⟩ := hD.eight
              go_region_held3 (fun w' => w'.cell? ⟨w2.heap.size, 0, none⟩ = some (.slice (some ⟨b, off, none⟩) S.na ca0) ∧ w'.cell? ⟨w2.heap.size, 1, none⟩ = some (.slice (some ⟨bR, oR, none⟩) S.nr cr0) ∧ w'.cell? ⟨w2.heap.size, 2, none⟩ = some (.slice F0 S.nf cf0) ∧ w'.cell? ⟨w2.heap.size, 3, none⟩ = some (.int .i64 S.label) ∧ w'.cell? ⟨w2.heap.size + 1, 0, none⟩ = some (.slice (some ⟨b, off, none⟩) S.na ca0) ∧ w'.cell? ⟨w2.heap.size + 1, 1, none⟩ = some (.slice (some ⟨gR, 0, none⟩) S.nr cR) ∧ w'.cell? ⟨w2.heap.size + 1, 2, none⟩ = some (.slice F0 S.nf cf0) ∧ w'.cell? ⟨w2.heap.size + 1, 3, none⟩ = some (.int .i64 S.label))
                (first | exact q2.eight | exact q1.eight | exact hD.eight)
                (first
                  | (go_at_call 40; go_split_ands; ((with_reducible refine (uses_x (V := ⟨some ⟨b, off, none⟩, ca0, some ⟨bR, oR, none⟩, cr0, F0, cf0, L0⟩) (k := k) hD.sx HVO.out.1 HK.out).mono ?_); rintro e v1 ⟨P1, n1, p1, rfl, hn1, hb1⟩; have q1 := hD.next hb1; have HN1 := Lib.hid hn1; clear hn1))
                  | (go_at_call 40; go_split_ands; ((with_reducible refine (uses_put (V := ⟨some ⟨b, off, none⟩, ca0, some ⟨bR, oR, none⟩, cr0, F0, cf0, L0⟩) (k := k) q1.sy HVO.out.1 HVO.out.2 HK.out).mono ?_); rintro e v2 ⟨P2, n2, p2, rfl, hn2, hb2⟩; have q2 := q1.next hb2; obtain rfl : n2 = n1 := (by have := HN1.out; omega); clear hn2)))
              go_wp2_with fail
              go_meet
              exact ⟨by simp, Lib.hid q2⟩
            clear HR HK
            obtain ⟨rfl, HR⟩ := hcut
            have c0 : wc.cell? ⟨w2.heap.size, 0, none⟩ = some (.slice (some ⟨b, off, none⟩) S.na ca0) := HR.out.eight.1
            go_wp2_with fail
            clear c0
            go_loopg [83] S.na (fun gg s83 wx => ∃ d : Nat, d + gg = S.na ∧ s83 = .int .i64 (d : Int) ∧ Hid (TwoS w wx w2.heap.size S ⟨some ⟨b, off, none⟩, ca0, some ⟨bR, oR, none⟩, cr0, F0, cf0, L0⟩ l (some ⟨gR, 0, none⟩) cR))
            case atStart => exact ⟨0, by omega, rfl, HR⟩
            case round =>
              clear HR
              obtain ⟨d, hd, rfl, HX⟩ := hrel
              by_cases hld : d < S.na
              · obtain ⟨q, hq⟩ : ∃ q, linkedB S (a : Int) (d : Int) = q := ⟨_, rfl⟩
                have HQ := Lib.hid hq
                clear hq
                go_upto_region 22 with fail
                go_cut [94] (fun s94 wy => s94 = .bool false ∧ Hid (TwoS w wy w2.heap.size S ⟨some ⟨b, off, none⟩, ca0, some ⟨bR, oR, none⟩, cr0, F0, cf0, L0⟩ l (some ⟨gR, 0, none⟩) cR))
                case first =>
                  have hD := HX.out.drew
                  obtain ⟨a0, a1, a2, a3, b0, b1, b2, b3⟩ := hD.eight
                  go_region_held3 (fun w' => w'.cell? ⟨w2.heap.size, 0, none⟩ = some (.slice (some ⟨b, off, none⟩) S.na ca0) ∧ w'.cell? ⟨w2.heap.size, 1, none⟩ = some (.slice (some ⟨bR, oR, none⟩) S.nr cr0) ∧ w'.cell? ⟨w2.heap.size, 2, none⟩ = some (.slice F0 S.nf cf0) ∧ w'.cell? ⟨w2.heap.size, 3, none⟩ = some (.int .i64 S.label) ∧ w'.cell? ⟨w2.heap.size + 1, 0, none⟩ = some (.slice (some ⟨b, off, none⟩) S.na ca0) ∧ w'.cell? ⟨w2.heap.size + 1, 1, none⟩ = some (.slice (some ⟨gR, 0, none⟩) S.nr cR) ∧ w'.cell? ⟨w2.heap.size + 1, 2, none⟩ = some (.slice F0 S.nf cf0) ∧ w'.cell? ⟨w2.heap.size + 1, 3, none⟩ = some (.int .i64 S.label))
                    (first | exact q2.eight | exact q1.eight | exact hD.eight)
                    (first
                      | (go_at_call 41; go_split_ands; ((with_reducible refine (linked_x (V := ⟨some ⟨b, off, none⟩, ca0, some ⟨bR, oR, none⟩, cr0, F0, cf0, L0⟩) (q := q) hD.sx HVO.out.1 HQ.out).mono ?_); rintro e v1 ⟨rfl, hb1⟩; have q1 := hD.next hb1))
                      | (go_at_call 41; go_split_ands; ((with_reducible refine (linked_put (V := ⟨some ⟨b, off, none⟩, ca0, some ⟨bR, oR, none⟩, cr0, F0, cf0, L0⟩) (q := q) q1.sy HVO.out.1 HVO.out.2 HQ.out).mono ?_); rintro e v2 ⟨rfl, hb2⟩; have q2 := q1.next hb2)))
                  go_wp2_with fail
                  go_meet
                  exact ⟨by simp, Lib.hid q2⟩
                clear HX HQ
                obtain ⟨rfl, HX⟩ := hcut
                go_wp2_with fail
                go_roundg (S.na - (d + 1))
                case measure => omega
                case rel => exact ⟨d + 1, by omega, by go_num, HX⟩
              · go_wp2_with fail
                go_roundg (S.na - (a + 1))
                case measure => omega
                case rel => exact ⟨a + 1, by omega, by go_num, HX⟩
          · go_wp2_with fail
            refine (sane05 (H.out.1.below HR.out.low)).mono ?_
            rintro e w9 ⟨rfl, hb⟩
            have HE := Lib.hid (HR.out.low.trans (hb.mono HR.out.low.size))
            clear hb HR
            go_wp2
            go_ret
            exact ⟨rfl, HE.out⟩
end Go.Proofs.YtjghgbfagjhdgaaGreatDoor
