/- The law SchemaLimits. -/
import Derived.Test.YtjghgbfagjhdgaaGreatDoorSchR
import Derived.Test.YtjghgbfagjhdgaaGreatDoorRelW
import Derived.Test.YtjghgbfagjhdgaaGreatDoorPlz
import Derived.Maps.AppendAt
import Derived.Deep.AppendLies
import Derived.Deep.DeepCutAuto
import Derived.Deep.RegionHeld3
namespace Go.Proofs.YtjghgbfagjhdgaaGreatDoor
open Go Go.RowKit

def nmL (j : Nat) : ByteArray := ⟨[97, UInt8.ofNat (97 + j)].toArray⟩
def kdL (j : Nat) : Int := 1 + (j : Int) % 3
def attrsV (k : Nat) : List Value := (List.range k).flatMap fun j => [Value.string (nmL j), .int .i64 (kdL j)]
def intsV (k : Nat) : List Value := (List.range k).map fun (j : Nat) => Value.int .i64 (j : Int)
theorem attrsV_succ (k : Nat) : attrsV (k + 1) = attrsV k ++ [.string (nmL k), .int .i64 (kdL k)] := by simp [attrsV, List.range_succ]
theorem intsV_succ (k : Nat) : intsV (k + 1) = intsV k ++ [.int .i64 (k : Int)] := by simp [intsV, List.range_succ]
theorem attrsV_len (k : Nat) : (attrsV k).length = k * 2 := by
  induction k with
  | zero => rfl
  | succ k ih => rw [attrsV_succ, List.length_append, ih]; show k * 2 + 2 = _; omega
theorem intsV_len (k : Nat) : (intsV k).length = k := by simp [intsV]
theorem attrsV_at {k j : Nat} (h : j < k) : (attrsV k)[j * 2]? = some (.string (nmL j)) ∧ (attrsV k)[j * 2 + 1]? = some (.int .i64 (kdL j)) := by
  induction k with
  | zero => omega
  | succ k ih =>
    rw [attrsV_succ]
    have hl := attrsV_len k
    by_cases e : j = k
    · subst e
      rw [List.getElem?_append_right (by omega), List.getElem?_append_right (by omega), hl]
      refine ⟨?_, ?_⟩
      · rw [Nat.sub_self]; rfl
      · rw [show j * 2 + 1 - j * 2 = 1 by omega]; rfl
    · have := ih (by omega)
      rw [List.getElem?_append_left (by omega), List.getElem?_append_left (by omega)]
      exact this
theorem intsV_at {k j : Nat} (h : j < k) : (intsV k)[j]? = some (.int .i64 (j : Int)) := by simp [intsV, h]
def Sx (k : Nat) : Sc where
  na := k
  name := nmL
  kind := kdL
  nr := 1
  rname := fun _ => ⟨#[114]⟩
  rn := fun _ => k
  rat := fun _ j => (j : Int)
  nf := 0
  fa := fun _ => 0
  fk := fun _ => 0
  fm := fun _ => 0
  label := -1
def Sy (k : Nat) : Sc := { Sx k with name := fun j => if j + 1 = k then nmL 0 else nmL j }
def Sz (k : Nat) : Sc := { Sx k with rn := fun _ => k - 1 }
theorem checkX : ∀ k, k < 15 → 1 ≤ k → checkE (Sx k) = if 12 < k then 3 else 0 := by decide +kernel
theorem checkY : ∀ k, k < 13 → 2 ≤ k → checkE (Sy k) = 9 := by decide +kernel
theorem checkZ : ∀ k, k < 13 → 2 ≤ k → checkE (Sz k) = 7 := by decide +kernel
theorem infoAttr : (Tryz.prog.info? 68).map (fun i => (i.zero, i.size, i.bytes)) = some (some (.agg #[.string ⟨#[]⟩, .int .i64 0]), 2, 24) := by kernel_rfl
theorem name_of (i : Nat) : (⟨#[97]⟩ : ByteArray) ++ ⟨[UInt8.ofNat (97 + (i : Int)).toNat].toArray⟩ = nmL i := by
  have e : (97 + (i : Int)).toNat = 97 + i := by omega
  rw [e]
  exact bytes_app [97] [UInt8.ofNat (97 + i)]
/-- The law's memory in the loop: the schema's box, its one relation, the two lists that grow. -/
structure LimR (w : World) (h : Nat) (i j : Nat) (vA vI : Value) : Prop where
  box : w.heap[h + 1]? = some (.cells #[vA, .slice (some ⟨h, 0, none⟩) 1 1, .slice none 0 0, .int .i64 (-1)] 56 (0, 0))
  rel : w.heap[h]? = some (.cells #[.string ⟨#[114]⟩, vI] 60 (0, 0))
  attr : w.ownsRow (h + 1 + 1) 68 2 vA i (attrsV i)
  ints : w.ownsRow (h + 1 + 1) 3 1 vI j (intsV j)
  apart : ∀ k, vA.ownBlock = some k → vI.ownBlock ≠ some k
  size : h + 1 + 1 ≤ w.heap.size
def cellV (w : World) (a : Addr) : Value := (w.cell? a).getD (.int .i64 0)
theorem cellV_of {w : World} {a : Addr} {v : Value} (h : w.cell? a = some v) : w.cell? a = some (cellV w a) := by unfold cellV; rw [h]; rfl
theorem own_set {w : World} {base n size b i : Nat} {e : TypeId} {v u : Value} {xs : List Value} (h : w.ownsRow base e size v n xs) (hb : b < base) : (w.setCell ⟨b, i, none⟩ u).ownsRow base e size v n xs := by
  refine ⟨h.1, ?_⟩
  rcases h.2 with h1 | ⟨g', cap', cur, h', h2, hg', h3⟩
  · exact .inl h1
  · exact .inr ⟨g', cap', cur, h', h2, (Below.heap_setCell _ _ _ _ (by show g' ≠ b; omega)).trans hg', h3⟩
theorem size_set (w : World) (a : Addr) (u : Value) : (w.setCell a u).heap.size = w.heap.size := by simp [World.setCell]
theorem grown_block {w w' : World} {row : Option Nat} {k base : Nat} (h : w.grownBy w' row) (hk : k < w.heap.size) (hr : ∀ r, row = some r → base ≤ r) (hb : k < base) : w'.heap[k]? = w.heap[k]? :=
  h.block k hk (fun e => by first | (have := hr _ e; omega) | (have := hr _ e.symm; omega))
theorem grown_size {w w' : World} {row : Option Nat} (h : w.grownBy w' row) : w.heap.size ≤ w'.heap.size :=
  ((Below.refl 0 w).grown h (Nat.zero_le _) (fun _ _ => Nat.zero_le _)).size
theorem lim_attr {wr w1 wn : World} {h i j gA cA : Nat} {vA vI : Value} (hr : LimR wr h i j vA vI) (h1 : Below wr.heap.size wr w1)
    (hown : wn.ownsRow (h + 1 + 1) 68 2 (.slice (some ⟨gA, 0, none⟩) (i + 1) cA) (i + 1) (attrsV i ++ [.string (nmL i), .int .i64 (kdL i)])) (hgrow : w1.grownBy wn vA.ownBlock) (hblk : vA.ownBlock = some gA ∨ gA = w1.heap.size) :
    LimR (wn.setCell ⟨h + 1, 0, none⟩ (.slice (some ⟨gA, 0, none⟩) (i + 1) cA)) h (i + 1) j (.slice (some ⟨gA, 0, none⟩) (i + 1) cA) vI := by
  have hrA : ∀ b, vA.ownBlock = some b → h + 1 + 1 ≤ b := fun b hb => (hr.attr.lt b hb).1
  have hsz := hr.size
  have hs1 := h1.size
  have hs2 := grown_size hgrow
  have k0 := (grown_block hgrow (by omega) hrA (by omega : h + 1 < h + 1 + 1)).trans ((h1.block _ (lt_of_block hr.box)).trans hr.box)
  have k1 := (grown_block hgrow (by omega) hrA (by omega : h < h + 1 + 1)).trans ((h1.block _ (lt_of_block hr.rel)).trans hr.rel)
  refine ⟨Lib.heap_setCell_same k0 _, (Below.heap_setCell _ _ _ _ (by show h ≠ h + 1; omega)).trans k1, own_set (by rw [attrsV_succ]; exact hown) (by omega), own_set ((own_below' hr.ints h1).kept hgrow ?_) (by omega), ?_, ?_⟩
  · cases hs : vI.ownBlock with
    | none => exact .inl rfl
    | some k => exact .inr fun e => hr.apart k e.symm hs
  · intro k hk hI
    obtain rfl : gA = k := by simpa [Value.ownBlock] using hk
    rcases hblk with e | e
    · exact hr.apart _ e hI
    · have := (hr.ints.lt _ hI).2; omega
  · rw [size_set]; omega
theorem lim_ints {wr w1 wn : World} {h i j gI cI : Nat} {vA vI : Value} (hr : LimR wr h i j vA vI) (h1 : Below wr.heap.size wr w1)
    (hown : wn.ownsRow (h + 1 + 1) 3 1 (.slice (some ⟨gI, 0, none⟩) (j + 1) cI) (j + 1) (intsV j ++ [.int .i64 (j : Int)])) (hgrow : w1.grownBy wn vI.ownBlock) (hblk : vI.ownBlock = some gI ∨ gI = w1.heap.size) :
    LimR (wn.setCell ⟨h, 1, none⟩ (.slice (some ⟨gI, 0, none⟩) (j + 1) cI)) h i (j + 1) vA (.slice (some ⟨gI, 0, none⟩) (j + 1) cI) := by
  have hrA : ∀ b, vI.ownBlock = some b → h + 1 + 1 ≤ b := fun b hb => (hr.ints.lt b hb).1
  have hsz := hr.size
  have hs1 := h1.size
  have hs2 := grown_size hgrow
  have k0 := (grown_block hgrow (by omega) hrA (by omega : h + 1 < h + 1 + 1)).trans ((h1.block _ (lt_of_block hr.box)).trans hr.box)
  have k1 := (grown_block hgrow (by omega) hrA (by omega : h < h + 1 + 1)).trans ((h1.block _ (lt_of_block hr.rel)).trans hr.rel)
  refine ⟨(Below.heap_setCell _ _ _ _ (by show h + 1 ≠ h; omega)).trans k0, Lib.heap_setCell_same k1 _, own_set ((own_below' hr.attr h1).kept hgrow ?_) (by omega), own_set (by rw [intsV_succ]; exact hown) (by omega), ?_, ?_⟩
  · cases hs : vA.ownBlock with
    | none => exact .inl rfl
    | some k => exact .inr fun e => hr.apart k hs e.symm
  · intro k hk hI
    obtain rfl : gI = k := by simpa [Value.ownBlock] using hI
    rcases hblk with e | e
    · exact hr.apart _ hk e
    · have := (hr.attr.lt _ hk).2; omega
  · rw [size_set]; omega
theorem lim_below {w wr w1 wn : World} {h b i : Nat} {row : Option Nat} {u : Value} (hw : Below w.heap.size w wr) (h1 : Below wr.heap.size wr w1) (hgrow : w1.grownBy wn row) (hr : ∀ r, row = some r → h + 1 + 1 ≤ r) (hh : h = w.heap.size) (hb : h ≤ b) : Below w.heap.size w (wn.setCell ⟨b, i, none⟩ u) :=
  ((hw.trans (h1.mono hw.size)).grown hgrow (Nat.le_trans hw.size h1.size) (fun r e => by have := hr r e; omega)).setCell (p := ⟨b, i, none⟩) (by show w.heap.size ≤ b; omega) u
/-- The region that appends a number to the relation's list: what stays, whatever has been done already (9: the append, 12: the store). -/
structure LimE (w0 : World) (h i : Nat) (vA vI : Value) (D : List Nat) (vals : Nat → Value) (w : World) : Prop where
  low : Below w0.heap.size w0 w
  un : 9 ∉ D → vals 9 = undef
  box : w.heap[h + 1]? = some (.cells #[vA, .slice (some ⟨h, 0, none⟩) 1 1, .slice none 0 0, .int .i64 (-1)] 56 (0, 0))
  rel : 12 ∉ D → w.heap[h]? = some (.cells #[.string ⟨#[114]⟩, vI] 60 (0, 0))
  pre : 9 ∉ D → 12 ∉ D → LimR w h (i + 1) i vA vI
  post : 9 ∈ D → 12 ∉ D → ∃ gI cI, vals 9 = .slice (some ⟨gI, 0, none⟩) (i + 1) cI ∧ LimR (w.setCell ⟨h, 1, none⟩ (vals 9)) h (i + 1) (i + 1) vA (vals 9)
  fin : 12 ∈ D → ∃ vI', LimR w h (i + 1) (i + 1) vA vI'
  hh : w0.heap.size = h
def LimT (h : Nat) (vI : Value) (w w' : World) : Prop := w.heap.size ≤ w'.heap.size ∧ ∀ k, k < w.heap.size → k ≠ h → vI.ownBlock ≠ some k → w'.heap[k]? = w.heap[k]?
theorem LimT.same {h : Nat} {vI : Value} {w : World} : LimT h vI w w := ⟨Nat.le_refl _, fun _ _ _ _ => rfl⟩
def NewsAt (h i : Nat) (vI v : Value) (w : World) : Prop := ∃ g, v = .slice (some ⟨g, 0, none⟩) 1 1 ∧ w.heap[g]? = some (.cells #[.int .i64 (i : Int)] 3 (0, 0)) ∧ g ≠ h ∧ vI.ownBlock ≠ some g
theorem NewsAt.keep {h i : Nat} {vI v : Value} {w w' : World} (hn : NewsAt h i vI v w) (hT : LimT h vI w w') : NewsAt h i vI v w' := by
  obtain ⟨g, e, hg, h1, h2⟩ := hn
  exact ⟨g, e, (hT.2 g (lt_of_block hg) h1 h2).trans hg, h1, h2⟩
theorem mem_snoc_ne {D : List Nat} {j k : Nat} (h : k ≠ j) : k ∈ D ++ [j] ↔ k ∈ D := by simp [h]
section
variable {w0 w : World} {h i : Nat} {vA vI : Value} {D : List Nat} {vals : Nat → Value}
theorem LimE.start (hr : LimR w h (i + 1) i vA vI) (hb : Below w0.heap.size w0 w) (hh : w0.heap.size = h) : LimE w0 h i vA vI [] (fun _ => undef) w.drew where
  low := hb.drew
  un _ := rfl
  box := hr.box
  rel _ := hr.rel
  pre _ _ := ⟨hr.box, hr.rel, hr.attr.drew, hr.ints.drew, hr.apart, hr.size⟩
  post hm := absurd hm (by simp)
  fin hm := absurd hm (by simp)
  hh := hh
theorem LimE.same (hE : LimE w0 h i vA vI D vals w) {j : Nat} (h9 : j ≠ 9) (h12 : j ≠ 12) (v : Value) : LimE w0 h i vA vI (D ++ [j]) (fun k => if k = j then v else vals k) w where
  low := hE.low
  un hm := by show (if 9 = j then v else vals 9) = undef; rw [if_neg (Ne.symm h9)]; exact hE.un fun x => hm ((mem_snoc_ne (Ne.symm h9)).2 x)
  box := hE.box
  rel hm := hE.rel fun x => hm ((mem_snoc_ne (Ne.symm h12)).2 x)
  pre hm hm' := hE.pre (fun x => hm ((mem_snoc_ne (Ne.symm h9)).2 x)) fun x => hm' ((mem_snoc_ne (Ne.symm h12)).2 x)
  post hm hm' := by
    have e : (if 9 = j then v else vals 9) = vals 9 := if_neg (Ne.symm h9)
    show ∃ gI cI, (if 9 = j then v else vals 9) = _ ∧ LimR (w.setCell ⟨h, 1, none⟩ (if 9 = j then v else vals 9)) h (i + 1) (i + 1) vA (if 9 = j then v else vals 9)
    rw [e]
    exact hE.post ((mem_snoc_ne (Ne.symm h9)).1 hm) fun x => hm' ((mem_snoc_ne (Ne.symm h12)).2 x)
  fin hm := hE.fin ((mem_snoc_ne (Ne.symm h12)).1 hm)
  hh := hE.hh
theorem LimR.alloc {w : World} {h i j : Nat} {vA vI : Value} (hr : LimR w h i j vA vI) (o : Obj) : LimR (w.alloc o) h i j vA vI :=
  ⟨block_alloc _ hr.box, block_alloc _ hr.rel, hr.attr.alloc _, hr.ints.alloc _, hr.apart, by have := hr.size; simp; omega⟩
theorem LimE.news (hE : LimE w0 h i vA vI D vals w) (n9 : 9 ∉ D) (n12 : 12 ∉ D) (v : Value) : LimE w0 h i vA vI (D ++ [8]) (fun k => if k = 8 then v else vals k) (w.alloc (.cells #[.int .i64 (i : Int)] 3)) where
  low := hE.low.alloc (hE.low.size) _
  un _ := by show (if 9 = 8 then v else vals 9) = undef; rw [if_neg (by decide)]; exact hE.un n9
  box := block_alloc _ hE.box
  rel _ := block_alloc _ (hE.rel n12)
  pre _ _ := (hE.pre n9 n12).alloc _
  post hm := absurd ((mem_snoc_ne (by decide)).1 hm) n9
  fin hm := absurd ((mem_snoc_ne (by decide)).1 hm) n12
  hh := hE.hh
theorem LimE.newsAt (hE : LimE w0 h i vA vI D vals w) (n9 : 9 ∉ D) (n12 : 12 ∉ D) : NewsAt h i vI (.slice (some ⟨w.heap.size, 0, none⟩) 1 1) (w.alloc (.cells #[.int .i64 (i : Int)] 3)) := by
  have hr := hE.pre n9 n12
  refine ⟨w.heap.size, rfl, heap_alloc_new w _, ?_, fun e => ?_⟩
  · have := hr.size; omega
  · have := (hr.ints.lt _ e).2; omega
theorem LimE.app (hE : LimE w0 h i vA vI D vals w) (n9 : 9 ∉ D) (n12 : 12 ∉ D) {gI cI : Nat} {wn : World}
    (hown : wn.ownsRow (h + 1 + 1) 3 1 (.slice (some ⟨gI, 0, none⟩) (i + 1) cI) (i + 1) (intsV i ++ [.int .i64 (i : Int)])) (hgrow : w.grownBy wn vI.ownBlock) (hblk : vI.ownBlock = some gI ∨ gI = w.heap.size) :
    LimT h vI w wn ∧ LimE w0 h i vA vI (D ++ [9]) (fun k => if k = 9 then .slice (some ⟨gI, 0, none⟩) (i + 1) cI else vals k) wn := by
  have hr := hE.pre n9 n12
  have hI : ∀ b, vI.ownBlock = some b → h + 1 + 1 ≤ b := fun b hb => (hr.ints.lt b hb).1
  have hsz := hr.size
  have hh := hE.hh
  refine ⟨⟨grown_size hgrow, fun k hk _ hne => hgrow.block k hk (fun e => by first | exact hne e | exact hne e.symm)⟩, ?_⟩
  exact { low := hE.low.grown hgrow hE.low.size (fun r e => by have := hI r e; omega)
          un := fun hm => absurd (by simp) hm
          box := (grown_block hgrow (lt_of_block hr.box) hI (by omega : h + 1 < h + 1 + 1)).trans hr.box
          rel := fun _ => (grown_block hgrow (lt_of_block hr.rel) hI (by omega : h < h + 1 + 1)).trans hr.rel
          pre := fun hm => absurd (by simp) hm
          post := fun _ _ => ⟨gI, cI, by simp, by
            show LimR (wn.setCell ⟨h, 1, none⟩ (if 9 = 9 then _ else vals 9)) h (i + 1) (i + 1) vA (if 9 = 9 then _ else vals 9)
            rw [if_pos rfl]
            exact lim_ints hr (Below.refl _ _) hown hgrow hblk⟩
          fin := fun hm => absurd ((mem_snoc_ne (by decide)).1 hm) n12
          hh := hh }
theorem LimE.put (hE : LimE w0 h i vA vI D vals w) (n12 : 12 ∉ D) (hv : vals 9 ≠ undef) :
    (∃ gI cI, vals 9 = .slice (some ⟨gI, 0, none⟩) (i + 1) cI) ∧ LimT h vI w (w.setCell ⟨h, 1, none⟩ (vals 9)) ∧ ∀ u, LimE w0 h i vA vI (D ++ [12]) (fun k => if k = 12 then u else vals k) (w.setCell ⟨h, 1, none⟩ (vals 9)) := by
  have m9 : 9 ∈ D := by
    rcases Classical.em (9 ∈ D) with hm | hm
    · exact hm
    · exact absurd (hE.un hm) hv
  obtain ⟨gI, cI, e, hl⟩ := hE.post m9 n12
  have hh := hE.hh
  refine ⟨⟨gI, cI, e⟩, ⟨Nat.le_of_eq (size_set _ _ _).symm, fun k _ hk _ => Below.heap_setCell _ _ _ _ (by show k ≠ h; exact hk)⟩, fun u => ?_⟩
  exact { low := hE.low.setCell (p := ⟨h, 1, none⟩) (by show w0.heap.size ≤ h; omega) _
          un := fun hm => absurd (List.mem_append_left _ m9) hm
          box := hl.box
          rel := fun hm => absurd (by simp) hm
          pre := fun hm => absurd (List.mem_append_left _ m9) hm
          post := fun _ hm => absurd (by simp) hm
          fin := fun _ => ⟨_, hl⟩
          hh := hh }
end
theorem slim_caps {w : World} {base n size g cap : Nat} {e : TypeId} {ys : List Value} (h : w.ownsRow base e size (.slice (some ⟨g, 0, none⟩) n cap) n ys) : n ≤ cap ∧ cap ≤ maxLen := by
  rcases h.2 with ⟨h', _⟩ | ⟨g', cap', cur, h', _, _, h3, h4, _⟩
  · simp at h'
  · injection h' with _ _ h5
    subst h5
    exact ⟨h3, h4⟩
/-- The three schemas in memory. -/
theorem slim_attr {w : World} {base n g cap : Nat} {f : Nat → ByteArray} {k : Nat → Int} {ys : List Value} (h : w.ownsRow base 68 2 (.slice (some ⟨g, 0, none⟩) n cap) n ys) (hg : g < w.heap.size) (hy : ∀ j, j < n → ys[j * 2]? = some (.string (f j)) ∧ ys[j * 2 + 1]? = some (.int .i64 (k j))) :
    AttrAt w (some ⟨g, 0, none⟩) n f k := fun _ => ⟨g, 0, rfl, hg, fun i hi => by
      rw [Nat.zero_add]
      exact ⟨(h.cellAt _ (by omega)).trans (hy i hi).1, (h.cellAt _ (by omega)).trans (hy i hi).2⟩⟩
theorem slim_ints {w : World} {base n m g cap : Nat} (h : w.ownsRow base 3 1 (.slice (some ⟨g, 0, none⟩) n cap) n (intsV n)) (hg : g < w.heap.size) (hm : m ≤ n) : IntAt w (some ⟨g, 0, none⟩) m (fun j => (j : Int)) := fun _ =>
  ⟨g, 0, rfl, hg, fun i hi => by rw [Nat.zero_add]; exact (h.cellAt _ (by omega)).trans (intsV_at (by omega))⟩
theorem nmL_size (j : Nat) : (nmL j).size = 2 := rfl
def Vl (gA cA hR gI m cI : Nat) : Sv := ⟨some ⟨gA, 0, none⟩, cA, some ⟨hR, 0, none⟩, 1, none, 0, fun _ => (some ⟨gI, 0, none⟩, m, cI)⟩
/-- A schema of k attributes and one relation of the first m of them. -/
theorem slim_sch {w : World} {S : Sc} {k m gA cA hR gI cI : Nat} (hk : k ≤ 14) (hm : m ≤ k) (hna : S.na = k) (hnr : S.nr = 1) (hrn : S.rname = fun _ => ⟨#[114]⟩) (hrm : S.rn = fun _ => m) (hra : S.rat = fun (_ : Nat) (j : Nat) => (j : Int)) (hnf : S.nf = 0)
    (hs : ∀ j, (S.name j).size = 2) (ha : AttrAt w (some ⟨gA, 0, none⟩) k S.name S.kind) (hca : k ≤ cA ∧ cA ≤ maxLen) (hi : IntAt w (some ⟨gI, 0, none⟩) m (fun j => (j : Int)))
    (hr : w.heap[hR]? = some (.cells #[.string ⟨#[114]⟩, .slice (some ⟨gI, 0, none⟩) m cI] 60 (0, 0))) : SchIn w S (Vl gA cA hR gI m cI) := by
  refine ⟨by rw [hna]; exact ha, ?_, ?_, ?_, by omega, by omega, by omega, by rw [hna]; exact hca.1, by rw [hnr]; exact Nat.le_refl _, by rw [hnf]; exact Nat.zero_le _, hca.2, by unfold maxLen; show 1 ≤ _; omega, Nat.zero_le _, fun i _ => by rw [hs]; unfold maxLen; omega, fun i _ => by rw [hrn]; unfold maxLen; show 1 ≤ _; omega⟩
  · intro _
    refine ⟨hR, 0, rfl, lt_of_block hr, fun i hi' => ?_⟩
    obtain rfl : i = 0 := by omega
    rw [hrn]
    exact ⟨cell_in hr rfl, cell_in hr rfl⟩
  · intro h0; omega
  · intro i _
    rw [hrm, hra]
    exact ⟨rfl, by show m ≤ 1000; omega, hi⟩
theorem attrsV_one (k : Nat) : ∀ u ∈ attrsV k, u.oneCell' = true := by
  intro u hu
  unfold attrsV at hu
  rw [List.mem_flatMap] at hu
  obtain ⟨a, _, hu⟩ := hu
  simp at hu
  rcases hu with rfl | rfl <;> rfl
theorem slim_two (w : World) (o : Obj) : w.heap.size ≠ w.heap.size + 1 ∧ w.heap.size ≤ w.heap.size ∧ w.heap.size ≤ w.heap.size + 1 ∧ Below w.heap.size w ((w.alloc o).alloc o).drew ∧ ((w.alloc o).alloc o).drew.heap[w.heap.size]? = some o ∧ ((w.alloc o).alloc o).drew.heap[w.heap.size + 1]? = some o :=
  ⟨by omega, Nat.le_refl _, Nat.le_succ _, (((Below.refl _ _).alloc (Nat.le_refl _) o).alloc (by simp) o).drew, (Below.heap_alloc _ _ _ (by simp)).trans (heap_alloc_new w _), by have := heap_alloc_new (w.alloc o) o; rw [show (w.alloc o).heap.size = w.heap.size + 1 by simp] at this; exact this⟩
theorem slim_two' (w : World) (o : Obj) : w.heap.size + 1 ≠ w.heap.size ∧ w.heap.size ≤ w.heap.size + 1 ∧ w.heap.size ≤ w.heap.size ∧ Below w.heap.size w ((w.alloc o).alloc o).drew ∧ ((w.alloc o).alloc o).drew.heap[w.heap.size + 1]? = some o ∧ ((w.alloc o).alloc o).drew.heap[w.heap.size]? = some o := by
  obtain ⟨h1, h2, h3, h4, h5, h6⟩ := slim_two w o
  exact ⟨Ne.symm h1, h3, h2, h4, h6, h5⟩
set_option linter.unusedSimpArgs false in
set_option maxHeartbeats 6400000 in
set_option maxRecDepth 100000 in
theorem law_slimits {w : World} {d : Int} (hm : Lx w) (hd0 : 0 ≤ d) (hd1 : d ≤ 255) :
    Calls Tryz.prog 9 #[.int .u8 d] w fun e w' => e = .returned (.bool true) ∧ Below w.heap.size w w' := by
  obtain ⟨ei, hi, hz, hss, hbs⟩ := info_parts infoAttr
  obtain ⟨ei2, hi2, hz2, hss2, hbs2⟩ := info_parts infoInt
  have HI := Lib.hid (And.intro hi (And.intro hz (And.intro hss hbs)))
  have HI2 := Lib.hid (And.intro hi2 (And.intro hz2 (And.intro hss2 hbs2)))
  clear hi hz hss hbs hi2 hz2 hss2 hbs2
  obtain ⟨k, hk⟩ : ∃ k : Nat, (k : Int) = 1 + d % 14 := ⟨(1 + d % 14).toNat, by omega⟩
  have hk1 : 1 ≤ k := by omega
  have hk2 : k ≤ 14 := by omega
  have HK := Lib.hid hk
  have H := Lib.hid hm
  clear hm hk
  go_enter Tryz.func9, Tryz.ntmps9
  go_upto_region 3 with fail
  rw [show (1 : Int) + d % 14 = (k : Int) from HK.out.symm]
  have hL0 : LimR ((w.alloc (.cells #[.string ⟨#[114]⟩, .slice none 0 0] 60)).alloc (.cells #[.slice none 0 0, .slice (some ⟨w.heap.size, 0, none⟩) 1 1, .slice none 0 0, .int .i64 (-1)] 56)) w.heap.size 0 0 (.slice none 0 0) (.slice none 0 0) :=
    ⟨block_new _ (by simp), block_alloc _ (block_new _ rfl), World.ownsRow_nil _ _ _ _, World.ownsRow_nil _ _ _ _, fun k h => by simp [Value.ownBlock] at h, by simp⟩
  have HL0 := Lib.hid (And.intro hL0 (show Below w.heap.size w ((w.alloc (.cells #[.string ⟨#[114]⟩, .slice none 0 0] 60)).alloc (.cells #[.slice none 0 0, .slice (some ⟨w.heap.size, 0, none⟩) 1 1, .slice none 0 0, .int .i64 (-1)] 56)) by go_grown))
  clear hL0
  go_wp2_with fail
  go_loopg [5] k (fun gg s5 wr => ∃ (i : Nat) (vA vI : Value), i + gg = k ∧ s5 = .int .i64 (i : Int) ∧ Hid (LimR wr w.heap.size i i vA vI ∧ Below w.heap.size w wr))
  case atStart => exact ⟨0, _, _, by omega, rfl, HL0⟩
  case round =>
    clear HL0
    obtain ⟨i, vA, vI, hi, rfl, HR⟩ := hrel
    by_cases hlt : i < k
    · have c0 := cell_in HR.out.1.box (j := 0) rfl
      have c1 := cell_in HR.out.1.box (j := 1) rfl
      have kc := conv_one wr (d := 97 + (i : Int)) (by omega) (by omega)
      have kn := name_of i
      obtain ⟨sx, hsx⟩ : ∃ sx : ByteArray, sx = ⟨[UInt8.ofNat (97 + (i : Int)).toNat].toArray⟩ := ⟨_, rfl⟩
      have hsl : sx.size ≤ 1 := by rw [hsx]; exact Nat.le_refl _
      rw [← hsx] at kc kn
      clear hsx
      have hi97 : (0 : Int) ≤ 97 + (i : Int) := by omega
      have hi98 : 97 + (i : Int) ≤ 255 := by omega
      have hsz := HR.out.1.size
      have hrA : ∀ b, vA.ownBlock = some b → w.heap.size + 1 + 1 ≤ b := fun b hb => (HR.out.1.attr.lt b hb).1
      go_upto_region 7 with (at_builtin; refine wpList_append_lies _ rfl (.tmp 22) (.tmp 33) 52 rfl (w.heap.size + 1 + 1) 68 ei (.agg #[.string ⟨#[]⟩, .int .i64 0]) 2 24 Tryz.underlying52 HI.out.1 HI.out.2.1 HI.out.2.2.1 HI.out.2.2.2 rfl (by decide) vA i (attrsV i) rfl ((HR.out.1.attr.alloc _).alloc _) ⟨wr.heap.size + 1, 0, none⟩ 1 1 [.string (nmL i), .int .i64 (1 + (i : Int) % 3)] rfl rfl (by intro j u hj; match j, hj with | 0, hj => simp at hj; subst hj; simp [Addr.add] | 1, hj => simp at hj; subst hj; simp [Addr.add]) (by intro u hu; simp at hu; rcases hu with rfl | rfl <;> rfl) (by omega) (by unfold maxLen; omega) (by omega) (by simp <;> omega) (wr.heap.size + 1 + 1) (by simp) ?_; intro gA cA wn hown hgrow hblk hgl; have hbx := (hgrow.block (w.heap.size + 1) (by simp <;> omega) (fun e => by first | (have := hrA _ e; omega) | (have := hrA _ e.symm; omega))).trans (block_alloc _ (block_alloc _ HR.out.1.box)); have d0 : wn.cell? ⟨w.heap.size + 1, 0, none⟩ = some vA := cell_in hbx rfl; have f0 : wn.frozen? ⟨w.heap.size + 1, 0, none⟩ = false := (by simp [World.frozen?, hbx]); have HG := Lib.hid (And.intro hown (And.intro hgrow (And.intro hblk (And.intro hbx hgl)))); clear hown hgrow hblk hbx hgl)
      have hal : Below wr.heap.size wr ((wr.alloc (.cells #[.int .u8 (97 + (i : Int))] 5)).alloc (.cells #[.string (nmL i), .int .i64 (1 + (i : Int) % 3)] 68)) := by go_grown
      have hM := lim_attr HR.out.1 hal HG.out.1 HG.out.2.1 (by rcases HG.out.2.2.1 with e | e; exact .inl e; exact .inr (by rw [e]; simp))
      have hMB := lim_below (b := w.heap.size + 1) (i := 0) (u := .slice (some ⟨gA, 0, none⟩) (i + 1) cA) HR.out.2 hal HG.out.2.1 hrA rfl (by omega)
      obtain ⟨W, hW⟩ : ∃ W, W = wn.setCell ⟨w.heap.size + 1, 0, none⟩ (.slice (some ⟨gA, 0, none⟩) (i + 1) cA) := ⟨_, rfl⟩
      rw [← hW] at hM hMB ⊢
      obtain ⟨vA', hvA'⟩ : ∃ v, v = Value.slice (some ⟨gA, 0, none⟩) (i + 1) cA := ⟨_, rfl⟩
      rw [← hvA'] at hM
      have HM := Lib.hid (And.intro hM hMB)
      clear hM hMB hW HG HR hal d0 f0 c0 c1 hrA hsz kc kn hi97 hi98 hsl hvA'
      have hsz := HM.out.1.size
      have hrI : ∀ b, vI.ownBlock = some b → w.heap.size + 1 + 1 ≤ b := fun b hb => (HM.out.1.ints.lt b hb).1
      clear hsz hrI
      refine RelV.region_full0 13 [0, 1, 2, 3, 4, 5, 6, 7, 8, 9, 10, 11, 12] rfl rfl (R := [fun v _ => v = .pointer (some ⟨w.heap.size + 1, 1, none⟩), fun v _ => v = .slice (some ⟨w.heap.size, 0, none⟩) 1 1, fun v _ => v = .pointer (some ⟨w.heap.size + 1, 1, none⟩), fun v _ => v = .slice (some ⟨w.heap.size, 0, none⟩) 1 1, fun v _ => v = .pointer (some ⟨w.heap.size, 0, none⟩), fun v _ => v = .pointer (some ⟨w.heap.size, 1, none⟩), fun v _ => v = vI, fun v _ => v = .int .i64 (i : Int), NewsAt w.heap.size i vI, fun v _ => v ≠ undef, fun v _ => v = .pointer (some ⟨w.heap.size, 0, none⟩), fun v _ => v = .pointer (some ⟨w.heap.size, 1, none⟩), fun _ _ => True])
        (E := LimE w w.heap.size i vA' vI) (T := LimT w.heap.size vI) (by kernel_rfl) (by kernel_rfl) (LimE.start HM.out.1 HM.out.2 rfl) ?_ ?_ ?_
      · intro D vals j v w1 w2 hj hE hT hv
        match j, hj with
        | 8, _ => exact NewsAt.keep hv hT
        | 0, _ | 1, _ | 2, _ | 3, _ | 4, _ | 5, _ | 6, _ | 7, _ | 9, _ | 10, _ | 11, _ | 12, _ => exact hv
        | j + 13, hj => exact absurd hj (by omega)
      · refine RelV.Steps.cons (L := []) rfl (by kernel_rfl) ?_ ?_
        · intro vals w' D hE hF hR K hK
          simp only [Rel.putL, Rel.dst, z1, z2, z3, z4, Act.put, z5, z6, z7] at hK ⊢
          go_simp
          exact hK _ _ rfl LimT.same (hE.same (by decide) (by decide) _)
        refine RelV.Steps.cons (L := [0]) rfl (by kernel_rfl) ?_ ?_
        · intro vals w' D hE hF hR K hK
          have d0 : vals 0 = .pointer (some ⟨w.heap.size + 1, 1, none⟩) := hR.1
          have c1 : w'.cell? ⟨w.heap.size + 1, 1, none⟩ = some (.slice (some ⟨w.heap.size, 0, none⟩) 1 1) := cell_in hE.box rfl
          simp only [Rel.putL, Rel.dst, z1, z2, z3, z4, Act.put, z5, z6, z7, d0] at hK ⊢
          go_simp
          exact hK _ _ rfl LimT.same (hE.same (by decide) (by decide) _)
        refine RelV.Steps.cons (L := []) rfl (by kernel_rfl) ?_ ?_
        · intro vals w' D hE hF hR K hK
          simp only [Rel.putL, Rel.dst, z1, z2, z3, z4, Act.put, z5, z6, z7] at hK ⊢
          go_simp
          exact hK _ _ rfl LimT.same (hE.same (by decide) (by decide) _)
        refine RelV.Steps.cons (L := [2]) rfl (by kernel_rfl) ?_ ?_
        · intro vals w' D hE hF hR K hK
          have d2 : vals 2 = .pointer (some ⟨w.heap.size + 1, 1, none⟩) := hR.1
          have c1 : w'.cell? ⟨w.heap.size + 1, 1, none⟩ = some (.slice (some ⟨w.heap.size, 0, none⟩) 1 1) := cell_in hE.box rfl
          simp only [Rel.putL, Rel.dst, z1, z2, z3, z4, Act.put, z5, z6, z7, d2] at hK ⊢
          go_simp
          exact hK _ _ rfl LimT.same (hE.same (by decide) (by decide) _)
        refine RelV.Steps.cons (L := [3]) rfl (by kernel_rfl) ?_ ?_
        · intro vals w' D hE hF hR K hK
          have d3 : vals 3 = .slice (some ⟨w.heap.size, 0, none⟩) 1 1 := hR.1
          simp only [Rel.putL, Rel.dst, z1, z2, z3, z4, Act.put, z5, z6, z7, d3] at hK ⊢
          go_simp
          exact hK _ _ rfl LimT.same (hE.same (by decide) (by decide) _)
        refine RelV.Steps.cons (L := [4]) rfl (by kernel_rfl) ?_ ?_
        · intro vals w' D hE hF hR K hK
          have d4 : vals 4 = .pointer (some ⟨w.heap.size, 0, none⟩) := hR.1
          simp only [Rel.putL, Rel.dst, z1, z2, z3, z4, Act.put, z5, z6, z7, d4] at hK ⊢
          go_simp
          exact hK _ _ rfl LimT.same (hE.same (by decide) (by decide) _)
        refine RelV.Steps.cons (L := [5]) rfl (by kernel_rfl) ?_ ?_
        · intro vals w' D hE hF hR K hK
          have d5 : vals 5 = .pointer (some ⟨w.heap.size, 1, none⟩) := hR.1
          have n9 : 9 ∉ D := hF.not (by kernel_rfl)
          have n12 : 12 ∉ D := hF.not (by kernel_rfl)
          have c2 : w'.cell? ⟨w.heap.size, 1, none⟩ = some vI := cell_in (hE.pre n9 n12).rel rfl
          simp only [Rel.putL, Rel.dst, z1, z2, z3, z4, Act.put, z5, z6, z7, d5] at hK ⊢
          go_simp
          exact hK _ _ rfl LimT.same (hE.same (by decide) (by decide) _)
        refine RelV.Steps.cons (L := []) rfl (by kernel_rfl) ?_ ?_
        · intro vals w' D hE hF hR K hK
          simp only [Rel.putL, Rel.dst, z1, z2, z3, z4, Act.put, z5, z6, z7] at hK ⊢
          go_simp
          exact hK _ _ rfl LimT.same (hE.same (by decide) (by decide) _)
        refine RelV.Steps.cons (L := [7]) rfl (by kernel_rfl) ?_ ?_
        · intro vals w' D hE hF hR K hK
          have d7 : vals 7 = .int .i64 (i : Int) := hR.1
          have n9 : 9 ∉ D := hF.not (by kernel_rfl)
          have n12 : 12 ∉ D := hF.not (by kernel_rfl)
          simp only [Rel.putL, Rel.dst, z1, z2, z3, z4, Act.put, z5, z6, z7, d7] at hK ⊢
          go_simp
          exact hK _ _ (hE.newsAt n9 n12) ⟨by simp, fun k hk _ _ => Below.heap_alloc _ _ _ (by omega)⟩ (hE.news n9 n12 _)
        refine RelV.Steps.cons (L := [6, 8]) rfl (by kernel_rfl) ?_ ?_
        · intro vals w' D hE hF hR K hK
          have d6 : vals 6 = vI := hR.1
          obtain ⟨g8, d8, hg8, _, _⟩ := hR.2.1
          have n9 : 9 ∉ D := hF.1
          have n12 : 12 ∉ D := hF.not (by kernel_rfl)
          have hr := hE.pre n9 n12
          simp only [Rel.putL, Rel.dst, z1, z2, z3, z4, Act.put, z5, z6, z7, d6, d8] at hK ⊢
          refine wp_append_lies _ (.tmp 42) (.tmp 44) 22 (by rfl) (w.heap.size + 1 + 1) 3 ei2 (.int .i64 0) 1 8 Tryz.underlying22 HI2.out.1 HI2.out.2.1 HI2.out.2.2.1 HI2.out.2.2.2 rfl (by omega) vI i (intsV i) (by rfl) hr.ints ⟨g8, 0, none⟩ 1 1 [.int .i64 (i : Int)] (by rfl) (by rfl) (World.news_of_block (cs := #[.int .i64 (i : Int)]) (t := 3) (fr := (0, 0)) hg8) (by simp [Value.oneCell']) (by omega) (by unfold maxLen; omega) (by omega) (by have := hr.size; omega) w'.heap.size rfl ?_
          intro gI cI wn hown hgrow hblk _
          obtain ⟨hT, hE2⟩ := hE.app n9 n12 hown hgrow hblk
          exact hK _ _ (by intro e; cases e) hT hE2
        refine RelV.Steps.cons (L := [1]) rfl (by kernel_rfl) ?_ ?_
        · intro vals w' D hE hF hR K hK
          have d1 : vals 1 = .slice (some ⟨w.heap.size, 0, none⟩) 1 1 := hR.1
          simp only [Rel.putL, Rel.dst, z1, z2, z3, z4, Act.put, z5, z6, z7, d1] at hK ⊢
          go_simp
          exact hK _ _ rfl LimT.same (hE.same (by decide) (by decide) _)
        refine RelV.Steps.cons (L := [10]) rfl (by kernel_rfl) ?_ ?_
        · intro vals w' D hE hF hR K hK
          have d10 : vals 10 = .pointer (some ⟨w.heap.size, 0, none⟩) := hR.1
          simp only [Rel.putL, Rel.dst, z1, z2, z3, z4, Act.put, z5, z6, z7, d10] at hK ⊢
          go_simp
          exact hK _ _ rfl LimT.same (hE.same (by decide) (by decide) _)
        refine RelV.Steps.cons (L := [11, 9]) rfl (by kernel_rfl) ?_ ?_
        · intro vals w' D hE hF hR K hK
          have d11 : vals 11 = .pointer (some ⟨w.heap.size, 1, none⟩) := hR.1
          have d9 : vals 9 ≠ undef := hR.2.1
          have n12 : 12 ∉ D := hF.1
          obtain ⟨⟨gI, cI, e9⟩, hT, hE2⟩ := hE.put n12 d9
          have c2 : w'.cell? ⟨w.heap.size, 1, none⟩ = some vI := cell_in (hE.rel n12) rfl
          have f2 : w'.frozen? ⟨w.heap.size, 1, none⟩ = false := by simp [World.frozen?, hE.rel n12]
          rw [e9] at hT hE2
          simp only [Rel.putL, Rel.dst, z1, z2, z3, z4, Act.put, z5, z6, z7, d11, e9] at hK ⊢
          go_simp
          exact hK undef (w'.setCell ⟨w.heap.size, 1, none⟩ (.slice (some ⟨gI, 0, none⟩) (i + 1) cI)) trivial hT (hE2 _)
        exact RelV.Steps.done
      · intro vals Wx D hD hE hR
        obtain ⟨vI', hL⟩ := hE.fin ((hD 12).2 (by omega))
        have HL := Lib.hid (And.intro hL hE.low)
        simp only [Rel.putL, Rel.dst, z1, z2, z3, z4, Act.put, z5, z6, z7]
        clear hR hE hD hL HM
        go_wp2_with fail
        go_roundg (k - (i + 1))
        case measure => omega
        case rel => exact ⟨i + 1, _, vI', by omega, by go_num, HL⟩
    · have hik : i = k := by omega
      subst hik
      clear hi hlt
      obtain ⟨gA, cA, rfl, _, hgA⟩ := HR.out.1.attr.form (by omega)
      obtain ⟨gI, cI, rfl, _, hgI⟩ := HR.out.1.ints.form (by omega)
      have hcA := slim_caps HR.out.1.attr
      have hAt : AttrAt wr (some ⟨gA, 0, none⟩) i nmL kdL := slim_attr HR.out.1.attr hgA fun j hj => attrsV_at hj
      have hIt := slim_ints (m := i) HR.out.1.ints hgI (Nat.le_refl _)
      have hSx : SchIn wr (Sx i) (Vl gA cA w.heap.size gI i cI) := slim_sch hk2 (Nat.le_refl _) rfl rfl rfl rfl rfl rfl nmL_size hAt hcA hIt HR.out.1.rel
      have hch := check_any hSx
      rw [checkX i (by omega) hk1] at hch
      have c0 := cell_in HR.out.1.box (j := 0) rfl
      have c1 := cell_in HR.out.1.box (j := 1) rfl
      have c2 := cell_in HR.out.1.box (j := 2) rfl
      have c3 := cell_in HR.out.1.box (j := 3) rfl
      have HS := Lib.hid (And.intro hAt (And.intro hIt (And.intro hcA (And.intro hgA hgI))))
      clear hAt hIt hcA hSx hgA hgI
      by_cases h12 : 12 < i
      · rw [if_pos h12] at hch
        go_wp2_with fail
        refine hch.mono ?_
        clear hch
        rintro e w2 ⟨rfl, hb⟩
        have HB := Lib.hid (Below.step HR.out.2 hb)
        clear hb
        go_wp2_with fail
        refine (sane05 (H.out.below HB.out)).mono ?_
        rintro e w3 ⟨rfl, hb⟩
        have HF := Lib.hid (Below.step HB.out hb)
        clear hb
        go_wp2
        go_ret
        exact ⟨rfl, HF.out⟩
      · rw [if_neg h12] at hch
        go_wp2_with fail
        refine hch.mono ?_
        clear hch
        rintro e w2 ⟨rfl, hb⟩
        by_cases h1 : i = 1
        · have HB := Lib.hid (Below.step HR.out.2 hb)
          subst h1
          clear hb
          go_wp2_with fail
          refine (sane05 (H.out.below HB.out)).mono ?_
          rintro e w3 ⟨rfl, hb⟩
          have HF := Lib.hid (Below.step HB.out hb)
          clear hb
          go_wp2
          go_ret
          exact ⟨rfl, HF.out⟩
        · have hb1 : ((i : Int) == 1) = false := beq_eq_false_iff_ne.2 (by omega)
          have d0 := (hb.cell (p := ⟨w.heap.size + 1, 0, none⟩) (lt_of_block HR.out.1.box)).trans c0
          have d1 := (hb.cell (p := ⟨w.heap.size + 1, 1, none⟩) (lt_of_block HR.out.1.box)).trans c1
          have d2 := (hb.cell (p := ⟨w.heap.size + 1, 2, none⟩) (lt_of_block HR.out.1.box)).trans c2
          have d3 := (hb.cell (p := ⟨w.heap.size + 1, 3, none⟩) (lt_of_block HR.out.1.box)).trans c3
          have H2 := Lib.hid (And.intro (Below.step HR.out.2 hb) (And.intro ((hb.block _ (lt_of_block HR.out.1.box)).trans HR.out.1.box) (And.intro ((hb.block _ (lt_of_block HR.out.1.rel)).trans HR.out.1.rel) (And.intro (own_below' HR.out.1.attr hb) (own_below' HR.out.1.ints hb)))))
          clear hb c0 c1 c2 c3 HR
          go_upto_region 15 with fail
          go_cut [7, 8] (fun s7 s8 wx => ∃ p q : Nat, s7 = .pointer (some ⟨p, 0, none⟩) ∧ s8 = .pointer (some ⟨q, 0, none⟩) ∧ Hid (p ≠ q ∧ w2.heap.size ≤ p ∧ w2.heap.size ≤ q ∧ Below w2.heap.size w2 wx ∧ wx.heap[p]? = some (.cells #[.slice (some ⟨gA, 0, none⟩) i cA, .slice (some ⟨w.heap.size, 0, none⟩) 1 1, .slice none 0 0, .int .i64 (-1)] 56 (0, 0)) ∧ wx.heap[q]? = some (.cells #[.slice (some ⟨gA, 0, none⟩) i cA, .slice (some ⟨w.heap.size, 0, none⟩) 1 1, .slice none 0 0, .int .i64 (-1)] 56 (0, 0))))
          case first =>
            have hlt2 := lt_of_block H2.out.2.1
            have e0 := World.new_ne w2 ⟨w.heap.size + 1, 0, none⟩ d0
            have e1 := World.new_ne w2 ⟨w.heap.size + 1, 1, none⟩ d1
            have e2 := World.new_ne w2 ⟨w.heap.size + 1, 2, none⟩ d2
            have e3 := World.new_ne w2 ⟨w.heap.size + 1, 3, none⟩ d3
            go_region_held3 (fun w' => w'.cell? ⟨w.heap.size + 1, 0, none⟩ = some (.slice (some ⟨gA, 0, none⟩) i cA) ∧ w'.cell? ⟨w.heap.size + 1, 1, none⟩ = some (.slice (some ⟨w.heap.size, 0, none⟩) 1 1) ∧ w'.cell? ⟨w.heap.size + 1, 2, none⟩ = some (.slice none 0 0) ∧ w'.cell? ⟨w.heap.size + 1, 3, none⟩ = some (.int .i64 (-1))) (go_keep) (fail)
            all_goals go_wp2_with fail
            all_goals go_meet
            · exact ⟨_, _, rfl, rfl, Lib.hid (slim_two w2 _)⟩
            · exact ⟨_, _, rfl, rfl, Lib.hid (slim_two' w2 _)⟩
          obtain ⟨p, q, rfl, rfl, HC⟩ := hcut
          have hpq := HC.out.1
          have hb := HC.out.2.2.2.1
          have e0 := cell_in HC.out.2.2.2.2.1 (j := 0) rfl
          have x0 := (hb.cell (p := ⟨w.heap.size + 1, 0, none⟩) (lt_of_block H2.out.2.1)).trans d0
          have hAt := own_below' H2.out.2.2.2.1 hb
          have fp : wc.frozen? ⟨p, 0, none⟩ = false := by simp [World.frozen?, HC.out.2.2.2.2.1]
          have hsz := hb.size
          have HA := Lib.hid hAt
          clear hb d0 d1 d2 d3 hAt
          go_upto_region 17 with (at_builtin; refine wpList_append_lies _ rfl (.const (Value.slice none 0 0)) (.tmp 64) 52 rfl w2.heap.size 68 ei (.agg #[.string ⟨#[]⟩, .int .i64 0]) 2 24 Tryz.underlying52 HI.out.1 HI.out.2.1 HI.out.2.2.1 HI.out.2.2.2 rfl (by decide) (.slice none 0 0) 0 [] rfl (World.ownsRow_nil _ _ _ _) ⟨gA, 0, none⟩ i cA (attrsV i) rfl (attrsV_len i) (HA.out.cells rfl) (attrsV_one i) (by omega) (by unfold maxLen; omega) (by omega) hsz wc.heap.size rfl ?_; intro gY cY wn hown hgrow hblk hgl; have hbx := (hgrow.block p (lt_of_block HC.out.2.2.2.2.1) (by intro e; cases e)).trans HC.out.2.2.2.2.1; have n0 : wn.cell? ⟨p, 0, none⟩ = some (.slice (some ⟨gA, 0, none⟩) i cA) := cell_in hbx rfl; have f0 : wn.frozen? ⟨p, 0, none⟩ = false := (by simp [World.frozen?, hbx]); have HG := Lib.hid (And.intro hown (And.intro hgrow (And.intro hblk (And.intro hgl hbx)))); clear hown hgrow hblk hgl hbx)
          have hgy : gY = wc.heap.size := HG.out.2.2.1.resolve_left (by intro e; cases e)
          have hpl := lt_of_block HC.out.2.2.2.2.1
          have hql := lt_of_block HC.out.2.2.2.2.2
          have hoY := ownsRow_setCell_other (a := ⟨p, 0, none⟩) HG.out.1 (by show some gY ≠ some p; intro e; injection e; omega) (.slice (some ⟨gY, 0, none⟩) (0 + i) cY)
          rw [Nat.zero_add, List.nil_append] at hoY
          have hpY := Lib.heap_setCell_same (i := 0) HG.out.2.2.2.2 (.slice (some ⟨gY, 0, none⟩) i cY)
          have hbw : Below wc.heap.size wc wn := (Below.refl _ _).grown HG.out.2.1 (Nat.le_refl _) (fun r e => by cases e)
          have hW : Below w2.heap.size w2 (wn.setCell ⟨p, 0, none⟩ (.slice (some ⟨gY, 0, none⟩) i cY)) := (Below.step HC.out.2.2.2.1 hbw).setCell (p := ⟨p, 0, none⟩) HC.out.2.1 _
          have hqY := (Below.heap_setCell wn ⟨p, 0, none⟩ (.slice (some ⟨gY, 0, none⟩) i cY) q (by show q ≠ p; omega)).trans ((hbw.block q hql).trans HC.out.2.2.2.2.2)
          obtain ⟨m, hm⟩ : ∃ m, m + 1 = i := ⟨i - 1, by omega⟩
          have hfr : (wn.setCell ⟨p, 0, none⟩ (.slice (some ⟨gY, 0, none⟩) i cY)).frozen? ⟨gY, m * 2, none⟩ = false := hoY.frozenAt _
          have hgne : p ≠ gY ∧ q ≠ gY := by omega
          have HW := Lib.hid (And.intro hoY (And.intro hpY (And.intro hqY (And.intro hW hgne))))
          obtain ⟨W, hWW⟩ : ∃ W, W = wn.setCell ⟨p, 0, none⟩ (.slice (some ⟨gY, 0, none⟩) i cY) := ⟨_, rfl⟩
          rw [← hWW] at HW hfr ⊢
          clear hgy hpl hql hoY hpY hbw hW hqY hgne hWW HG n0 f0 e0 x0 fp hsz hpq HA
          have e0 : W.cell? ⟨p, 0, none⟩ = some (.slice (some ⟨gY, 0, none⟩) i cY) := cell_in HW.out.2.1 rfl
          have e1 : W.cell? ⟨gY, 0, none⟩ = some (.string (nmL 0)) := (HW.out.1.cellAt 0 (by omega)).trans (attrsV_at (j := 0) (by omega)).1
          have e2 : W.cell? ⟨gY, m * 2, none⟩ = some (.string (nmL m)) := (HW.out.1.cellAt (m * 2) (by omega)).trans (attrsV_at (j := m) (by omega)).1
          have hi1 : (i : Int) - 1 = (m : Int) := by omega
          have hm0 : (0 : Int) ≤ (m : Int) := by omega
          have hm1 : (m : Int) < (i : Int) := by omega
          have hi0 : (0 : Int) < (i : Int) := by omega
          have hmz : m * 2 ≠ 0 := by omega
          have hpg : gY ≠ p := Ne.symm HW.out.2.2.2.2.1
          have hi0n : 0 < i := by omega
          have hwr : IntKind.i64.wrap ((i : Int) - 1) = (m : Int) := by rw [IntWalk.i64_in _ (by omega)]; exact hi1
          have e3 : (W.setCell ⟨gY, m * 2, none⟩ (.string (nmL 0))).cell? ⟨gY, 0, none⟩ = some (.string (nmL 0)) := (World.cell?_setCell_other _ _ _ _ (by intro e; injection e; omega)).trans e1
          have e4 : (W.setCell ⟨gY, m * 2, none⟩ (.string (nmL 0))).cell? ⟨p, 0, none⟩ = some (.slice (some ⟨gY, 0, none⟩) i cY) := (World.cell?_setCell_other _ _ _ _ (by intro e; injection e; omega)).trans e0
          go_cut [] (fun wx => wx = (W.setCell ⟨gY, m * 2, none⟩ (.string (nmL 0))).drew)
          case first =>
            go_region
            go_wp2_with fail
            go_meet
            rfl
          subst hcut
          have ho2 := (HW.out.1.stored (m * 2) (.string (nmL 0))).1
          have hbW : Below w2.heap.size w2 (W.setCell ⟨gY, m * 2, none⟩ (.string (nmL 0))).drew := (HW.out.2.2.2.1.setCell (p := ⟨gY, m * 2, none⟩) (ho2.lt gY rfl).1 _).drew
          have hp2 := (Below.heap_setCell W ⟨gY, m * 2, none⟩ (.string (nmL 0)) p (by show p ≠ gY; exact HW.out.2.2.2.2.1)).trans HW.out.2.1
          have hq2 := (Below.heap_setCell W ⟨gY, m * 2, none⟩ (.string (nmL 0)) q (by show q ≠ gY; exact HW.out.2.2.2.2.2)).trans HW.out.2.2.1
          have hx2 := H2.out
          have hbb : Below wr.heap.size wr wr := Below.refl _ _
          have hIt2 : IntAt w2 (some ⟨gI, 0, none⟩) i (fun j => (j : Int)) := slim_ints hx2.2.2.2.2 (hx2.2.2.2.2.lt gI rfl).2 (Nat.le_refl _)
          have hIm2 : IntAt w2 (some ⟨gI, 0, none⟩) m (fun j => (j : Int)) := slim_ints hx2.2.2.2.2 (hx2.2.2.2.2.lt gI rfl).2 (by omega)
          have hAx2 : AttrAt w2 (some ⟨gA, 0, none⟩) i nmL kdL := slim_attr hx2.2.2.2.1 (hx2.2.2.2.1.lt gA rfl).2 fun j hj => attrsV_at hj
          have hrel2 := hx2.2.2.1
          have hcY := slim_caps HW.out.1
          have HZ := Lib.hid (And.intro hbW (And.intro hp2 (And.intro hq2 (And.intro ho2.drew (And.intro hIt2 (And.intro hIm2 (And.intro hAx2 (And.intro (slim_caps hx2.2.2.2.1) (And.intro hcY (And.intro hrel2 (And.intro HC.out.2.2.1 (And.intro HW.out.2.2.2.2 HC.out.1))))))))))))
          have x1 := cell_in ((hbW.block _ (lt_of_block hx2.2.1)).trans hx2.2.1) (j := 1) rfl
          have x2 := cell_in ((hbW.block _ (lt_of_block hx2.2.2.1)).trans hx2.2.2.1) (j := 1) rfl
          have q1 := cell_in hq2 (j := 1) rfl
          have fq : ((W.setCell ⟨gY, m * 2, none⟩ (.string (nmL 0))).drew).frozen? ⟨q, 1, none⟩ = false := by
            have : ((W.setCell ⟨gY, m * 2, none⟩ (.string (nmL 0))).drew).heap[q]? = _ := hq2
            simp [World.frozen?, this]
          obtain ⟨Z, hZ⟩ : ∃ Z, Z = (W.setCell ⟨gY, m * 2, none⟩ (.string (nmL 0))).drew := ⟨_, rfl⟩
          replace q1 : Z.cell? ⟨q, 1, none⟩ = some (.slice (some ⟨w.heap.size, 0, none⟩) 1 1) := by rw [hZ]; exact q1
          rw [← hZ] at HZ x1 x2 fq ⊢
          have hqz : q < Z.heap.size := by
            have h1 := HZ.out.2.2.1
            rw [show (W.setCell ⟨gY, m * 2, none⟩ (.string (nmL 0))).heap = Z.heap by rw [hZ]; rfl] at h1
            exact lt_of_block h1
          have q2 : ∀ o, (Z.alloc o).cell? ⟨q, 1, none⟩ = some (.slice (some ⟨w.heap.size, 0, none⟩) 1 1) := fun o => (World.cell?_alloc_some _ _ o (by rw [q1]; rfl)).trans q1
          have fq2 : ∀ o, (Z.alloc o).frozen? ⟨q, 1, none⟩ = false := fun o => by
            have h1 := HZ.out.2.2.1
            rw [show (W.setCell ⟨gY, m * 2, none⟩ (.string (nmL 0))).heap = Z.heap by rw [hZ]; rfl] at h1
            have h2 := block_alloc o h1
            simp [World.frozen?, h2]
          have HZh := Lib.hid (show (W.setCell ⟨gY, m * 2, none⟩ (.string (nmL 0))).heap = Z.heap by rw [hZ]; rfl)
          have hmc : m ≤ cI := by have := (slim_caps hx2.2.2.2.2).1; omega
          have hmci : (m : Int) ≤ (cI : Int) := by omega
          clear ho2 hbW hp2 hq2 hx2 hbb hIt2 hIm2 hAx2 hZ hrel2 hcY e0 e1 e2 e3 e4 hfr hmz hpg HW
          go_upto_region 19 with fail
          obtain ⟨k1, k2, k3, k4, k5, k6, k7, k8, k9, k10, k11, k12, k13⟩ := HZ.out
          rw [HZh.out] at k2 k3
          have hB : Below w2.heap.size w2 ((Z.setCell ⟨q, 1, none⟩ (.slice (some ⟨Z.heap.size, 0, none⟩) 1 1)).alloc (.cells #[.string ⟨#[114]⟩, .slice (some ⟨gI, 0, none⟩) m cI] 60)) :=
            (k1.setCell (p := ⟨q, 1, none⟩) k11 _).alloc (by rw [size_set]; exact k1.size) _
          have hpz := block_alloc (.cells #[.string ⟨#[114]⟩, .slice (some ⟨gI, 0, none⟩) m cI] 60) ((Below.heap_setCell Z ⟨q, 1, none⟩ (.slice (some ⟨Z.heap.size, 0, none⟩) 1 1) p (by show p ≠ q; exact k13)).trans k2)
          have hqq := block_alloc (.cells #[.string ⟨#[114]⟩, .slice (some ⟨gI, 0, none⟩) m cI] 60) (Lib.heap_setCell_same (i := 1) k3 (.slice (some ⟨Z.heap.size, 0, none⟩) 1 1))
          have hoz := (ownsRow_setCell_other (a := ⟨q, 1, none⟩) k4 (by show some gY ≠ some q; intro e; injection e with e; exact k12.2 e.symm) (.slice (some ⟨Z.heap.size, 0, none⟩) 1 1)).alloc (.cells #[.string ⟨#[114]⟩, .slice (some ⟨gI, 0, none⟩) m cI] 60)
          have hrz : ((Z.setCell ⟨q, 1, none⟩ (.slice (some ⟨Z.heap.size, 0, none⟩) 1 1)).alloc (.cells #[.string ⟨#[114]⟩, .slice (some ⟨gI, 0, none⟩) m cI] 60)).heap[Z.heap.size]? = some (.cells #[.string ⟨#[114]⟩, .slice (some ⟨gI, 0, none⟩) m cI] 60 (0, 0)) := block_new _ (size_set _ _ _).symm
          have ha2 : AttrAt ((Z.setCell ⟨q, 1, none⟩ (.slice (some ⟨Z.heap.size, 0, none⟩) 1 1)).alloc (.cells #[.string ⟨#[114]⟩, .slice (some ⟨gI, 0, none⟩) m cI] 60)) (some ⟨gY, 0, none⟩) i (Sy i).name kdL := slim_attr hoz (hoz.lt gY rfl).2 fun j hj => by
            have h1 := attrsV_at (k := i) hj
            have hl := attrsV_len i
            refine ⟨?_, ?_⟩
            · rw [List.getElem?_set]
              show _ = some (Value.string (if j + 1 = i then nmL 0 else nmL j))
              by_cases e : j + 1 = i
              · rw [if_pos (by omega), if_pos (by omega), if_pos e]
              · rw [if_neg (by omega), if_neg e]; exact h1.1
            · rw [List.getElem?_set, if_neg (by omega)]; exact h1.2
          have hSy := check_any (slim_sch (S := Sy i) (cA := cY) (cI := cI) hk2 (Nat.le_refl _) rfl rfl rfl rfl rfl rfl (by intro j; show (if j + 1 = i then nmL 0 else nmL j).size = 2; split <;> rfl) ha2 k9 (k5.below hB) ((hB.block _ (lt_of_block k10)).trans k10))
          rw [checkY i (by omega) (by omega)] at hSy
          have hSz : SchIn ((Z.setCell ⟨q, 1, none⟩ (.slice (some ⟨Z.heap.size, 0, none⟩) 1 1)).alloc (.cells #[.string ⟨#[114]⟩, .slice (some ⟨gI, 0, none⟩) m cI] 60)) (Sz i) (Vl gA cA Z.heap.size gI m cI) :=
            slim_sch hk2 (by omega) rfl rfl rfl (by funext _; show i - 1 = m; omega) rfl rfl nmL_size (k7.below hB) k8 (k6.below hB) hrz
          have HE := Lib.hid (And.intro hB (And.intro hSz hqq))
          have y0 := cell_in hpz (j := 0) rfl
          have y1 := cell_in hpz (j := 1) rfl
          have y2 := cell_in hpz (j := 2) rfl
          have y3 := cell_in hpz (j := 3) rfl
          obtain ⟨ZZ, hZZ⟩ : ∃ ZZ, ZZ = ((Z.setCell ⟨q, 1, none⟩ (.slice (some ⟨Z.heap.size, 0, none⟩) 1 1)).alloc (.cells #[.string ⟨#[114]⟩, .slice (some ⟨gI, 0, none⟩) m cI] 60)) := ⟨_, rfl⟩
          rw [← hZZ] at HE y0 y1 y2 y3 hSy ⊢
          clear k1 k2 k3 k4 k5 k6 k7 k8 k9 k10 k11 k12 k13 hB hpz hqq hoz hrz ha2 hSz hZZ q1 q2 fq fq2 x1 x2 hqz HZ HZh
          go_wp2_with fail
          refine hSy.mono ?_
          clear hSy
          rintro e w5 ⟨rfl, hb⟩
          have hSz := check_any (HE.out.2.1.below hb)
          rw [checkZ i (by omega) (by omega)] at hSz
          have hqq := (hb.block _ (lt_of_block HE.out.2.2)).trans HE.out.2.2
          have z0 := cell_in hqq (j := 0) rfl
          have z1 := cell_in hqq (j := 1) rfl
          have z2 := cell_in hqq (j := 2) rfl
          have z3 := cell_in hqq (j := 3) rfl
          have HB5 := Lib.hid (Below.step (Below.step H2.out.1 HE.out.1) hb)
          clear hb hqq y0 y1 y2 y3 HE
          go_wp2_with fail
          refine hSz.mono ?_
          clear hSz
          rintro e w6 ⟨rfl, hb⟩
          have HB6 := Lib.hid (Below.step HB5.out hb)
          clear hb z0 z1 z2 z3 HB5
          go_wp2_with fail
          refine (sane05 (H.out.below HB6.out)).mono ?_
          rintro e w7 ⟨rfl, hb⟩
          have HF := Lib.hid (Below.step HB6.out hb)
          clear hb
          go_wp2
          go_ret
          exact ⟨rfl, HF.out⟩
end Go.Proofs.YtjghgbfagjhdgaaGreatDoor
