/- Blocks that a call has laid: a list of them, each with its cells. What setting a cell of one of them leaves as it is. Sizes of fractions: numerator and denominator less than a bound. No program stands here. Places of a call, by what they hold: integers and fractions of package wide. -/
import Derived.Test.YtjghgbfagjhdgaaGreatDoorInts
import Derived.Test.YtjghgbfagjhdgaaGreatDoorFrac
import Derived.Test.YtjghgbfagjhdgaaGreatDoorRatT
import Derived.Test.YtjghgbfagjhdgaaGreatDoorRelW
import Derived.Deep.DeepCutAuto
import Derived.WalkSpells
namespace Go.Proofs.YtjghgbfagjhdgaaGreatDoor
open Go Go.RowKit

theorem z1 {α : Type} {l : List α} {i : Nat} : l.toArray[i]? = l[i]? := List.getElem?_toArray
theorem z2 {α : Type} {a : α} {l : List α} : (a :: l)[0]? = some a := List.getElem?_cons_zero
theorem z3 {α : Type} {a : α} {l : List α} {i : Nat} : (a :: l)[i + 1]? = l[i]? := List.getElem?_cons_succ
theorem z4 {α β : Type} (a : α) (f : α → Option β) : (some a).bind f = f a := Option.bind_some a f
theorem z5 {α : Type} (l : List α) (i : Nat) (a : α) : l.toArray.setIfInBounds i a = (l.set i a).toArray := List.setIfInBounds_toArray l i a
theorem z6 {α : Type} {a b : α} {l : List α} : (a :: l).set 0 b = b :: l := List.set_cons_zero
theorem z7 {α : Type} {a b : α} {l : List α} {n : Nat} : (a :: l).set (n + 1) b = a :: l.set n b := List.set_cons_succ
/-- A block, its cells and the type of them. -/
structure Blk where
  g : Nat
  cs : Array Value
  ty : TypeId
structure Frame (w0 : World) (bs : List Blk) (w : World) : Prop where
  mem : ∀ b ∈ bs, w.heap[b.g]? = some (.cells b.cs b.ty (0, 0))
  own : ∀ b ∈ bs, w0.heap.size ≤ b.g
  one : (bs.map Blk.g).Nodup
  below : Below w0.heap.size w0 w
section
variable {w0 w w' : World} {bs : List Blk}
theorem Frame.start (w : World) : Frame w [] w := ⟨fun _ h => absurd h (by simp), fun _ h => absurd h (by simp), by simp, Below.refl _ _⟩
theorem Frame.from_ (h : Below w0.heap.size w0 w) : Frame w0 [] w := ⟨fun _ h => absurd h (by simp), fun _ h => absurd h (by simp), by simp, h⟩
theorem Frame.lt (h : Frame w0 bs w) {b : Blk} (hb : b ∈ bs) : b.g < w.heap.size := lt_of_block (h.mem b hb)
theorem Frame.alloc (h : Frame w0 bs w) (cs : Array Value) (ty : TypeId) : Frame w0 (bs ++ [⟨w.heap.size, cs, ty⟩]) (w.alloc (.cells cs ty)) := by
  refine ⟨fun b hb => ?_, fun b hb => ?_, ?_, h.below.alloc h.below.size _⟩
  · rcases List.mem_append.1 hb with h1 | h1
    · exact (Below.heap_alloc w _ b.g (h.lt h1)).trans (h.mem b h1)
    · rw [List.mem_singleton] at h1; subst h1; exact heap_alloc_new w _
  · rcases List.mem_append.1 hb with h1 | h1
    · exact h.own b h1
    · rw [List.mem_singleton] at h1; subst h1; exact h.below.size
  · rw [List.map_append, List.nodup_append]
    refine ⟨h.one, by simp, fun a ha b hb => ?_⟩
    obtain ⟨x, hx, rfl⟩ := List.mem_map.1 ha
    simp only [List.map_cons, List.map_nil, List.mem_singleton] at hb
    rw [hb]
    exact Nat.ne_of_lt (h.lt hx)
theorem Frame.next (h : Frame w0 bs w) {B : Nat} (hb : Below B w w') (hB : w.heap.size ≤ B) : Frame w0 bs w' :=
  ⟨fun b hm => (hb.block b.g (Nat.lt_of_lt_of_le (h.lt hm) hB)).trans (h.mem b hm), h.own, h.one, h.below.trans (hb.mono (Nat.le_trans h.below.size hB))⟩
theorem Frame.drew (h : Frame w0 bs w) : Frame w0 bs w.drew := ⟨h.mem, h.own, h.one, h.below.drew⟩
theorem Frame.cell (h : Frame w0 bs w) (i j : Nat) {b : Blk} {v : Value} (hb : bs[i]? = some b) (hj : b.cs[j]? = some v) : w.cell? ⟨b.g, j, none⟩ = some v := by
  have := h.mem b (List.mem_of_getElem? hb)
  simp [World.cell?, this, hj]
theorem Frame.free (h : Frame w0 bs w) (i j : Nat) {b : Blk} (hb : bs[i]? = some b) : w.frozen? ⟨b.g, j, none⟩ = false := by
  have := h.mem b (List.mem_of_getElem? hb)
  simp [World.frozen?, this]
theorem Frame.set (h : Frame w0 bs w) (i : Nat) {b : Blk} (hb : bs[i]? = some b) (j : Nat) (v : Value) : Frame w0 (bs.set i ⟨b.g, b.cs.setIfInBounds j v, b.ty⟩) (w.setCell ⟨b.g, j, none⟩ v) := by
  have hi : i < bs.length := by
    rcases Nat.lt_or_ge i bs.length with h1 | h1
    · exact h1
    · rw [List.getElem?_eq_none h1] at hb; exact absurd hb (by simp)
  have hbe : bs[i] = b := by rw [List.getElem?_eq_getElem hi] at hb; exact Option.some.inj hb
  have hmap : (bs.set i ⟨b.g, b.cs.setIfInBounds j v, b.ty⟩).map Blk.g = bs.map Blk.g := by
    rw [List.map_set]
    refine List.ext_getElem? fun k => ?_
    rw [List.getElem?_set]
    by_cases hk : i = k
    · subst hk; simp [hi, hbe]
    · rw [if_neg hk]
  refine ⟨fun b' hm => ?_, fun b' hm => ?_, by rw [hmap]; exact h.one, h.below.setCell (h.own b (List.mem_of_getElem? hb)) _⟩
  · obtain ⟨k, hk, hkb⟩ := List.getElem_of_mem hm
    rw [List.getElem_set] at hkb
    by_cases hik : i = k
    · rw [if_pos hik] at hkb
      subst hkb
      exact Lib.heap_setCell_same (h.mem b (List.mem_of_getElem? hb)) v
    · rw [if_neg hik] at hkb
      subst hkb
      have hk' : k < bs.length := by simpa using hk
      have hne : bs[k].g ≠ b.g := by
        intro e
        have h2 : (bs.map Blk.g)[k]? = (bs.map Blk.g)[i]? := by
          rw [List.getElem?_map, List.getElem?_map, hb, List.getElem?_eq_getElem hk']; simp [e]
        have := (List.getElem?_inj (by simpa using hk') h.one).1 h2
        exact hik this.symm
      exact (Below.heap_setCell _ _ _ _ hne).trans (h.mem _ (List.getElem_mem hk'))
  · obtain ⟨k, hk, hkb⟩ := List.getElem_of_mem hm
    rw [List.getElem_set] at hkb
    by_cases hik : i = k
    · rw [if_pos hik] at hkb
      subst hkb
      exact h.own b (List.mem_of_getElem? hb)
    · rw [if_neg hik] at hkb
      subst hkb
      exact h.own _ (List.getElem_mem _)
theorem Frame.size (h : Frame w0 bs w) : w0.heap.size ≤ w.heap.size := h.below.size
/-- No cell of the block is a limb. -/
def noLimb (cs : Array Value) : Bool := cs.toList.all fun v => match v with | .int .u32 _ => false | _ => true
theorem noLimb_get {cs : Array Value} (h : noLimb cs = true) {j : Nat} {x : Int} : cs[j]? ≠ some (.int .u32 x) := by
  intro e
  have hm : Value.int .u32 x ∈ cs.toList := by
    rw [← Array.getElem?_toList] at e
    exact List.mem_of_getElem? e
  have := List.all_eq_true.1 h _ hm
  exact absurd this (by simp)
theorem Frame.nat (h : Frame w0 bs w) (i : Nat) {b : Blk} (hb : bs[i]? = some b) (hl : noLimb b.cs = true) (j : Nat) (x : Value) {v : Value} {n : Nat} (hv : IsNat w v n) : IsNat (w.setCell ⟨b.g, j, none⟩ x) v n := by
  obtain ⟨A1, l1, c1, e, ⟨hn, hc⟩, r⟩ := hv
  refine ⟨A1, l1, c1, e, ⟨hn, fun h0 => ?_⟩, r⟩
  obtain ⟨g', off, e2, hg, hc⟩ := hc h0
  have hne : g' ≠ b.g := by
    intro e4
    subst e4
    have h5 := hc 0 h0
    simp only [World.cell?, h.mem b (List.mem_of_getElem? hb)] at h5
    exact noLimb_get hl (by simpa using h5)
  refine ⟨g', off, e2, by simp [World.setCell]; exact hg, fun k hk => ?_⟩
  rw [World.cell?_setCell_other _ _ _ _ (by intro e; injection e with e1 _; exact hne e1.symm)]
  exact hc k hk
theorem Frame.int (h : Frame w0 bs w) (i : Nat) {b : Blk} (hb : bs[i]? = some b) (hl : noLimb b.cs = true) (j : Nat) (x : Value) {v : Value} {z : Int} (hv : IsInt w v z) : IsInt (w.setCell ⟨b.g, j, none⟩ x) v z := by
  obtain ⟨A1, l1, c1, e, hs⟩ := hv
  exact ⟨A1, l1, c1, e, hs.1, fun hn => ⟨(hs.2 hn).1, h.nat i hb hl j x (hs.2 hn).2⟩⟩
end
end Go.Proofs.YtjghgbfagjhdgaaGreatDoor
namespace Go.Proofs.YtjghgbfagjhdgaaGreatDoor
namespace F
/-- Numerator and denominator are less than b. -/
def Lt (b : Nat) (x : Rat) : Prop := x.num.natAbs < b ∧ x.den < b
theorem Lt.mono {b c : Nat} {x : Rat} (h : Lt b x) (hc : b ≤ c) : Lt c x := ⟨Nat.lt_of_lt_of_le h.1 hc, Nat.lt_of_lt_of_le h.2 hc⟩
theorem pn_lt {b : Nat} {x y : Rat} (hx : Lt b x) (hy : Lt b y) : (pn x y).natAbs < 2 * (b * b) := by
  unfold pn
  have h1 : y.den / pg x y < b := Nat.lt_of_le_of_lt (Nat.div_le_self _ _) hy.2
  have h2 : x.den / pg x y < b := Nat.lt_of_le_of_lt (Nat.div_le_self _ _) hx.2
  have h3 := Nat.mul_lt_mul'' hx.1 h1
  have h4 := Nat.mul_lt_mul'' hy.1 h2
  have h5 := Int.natAbs_add_le (x.num * ((y.den / pg x y : Nat) : Int)) (y.num * ((x.den / pg x y : Nat) : Int))
  rw [Int.natAbs_mul, Int.natAbs_mul, Int.natAbs_natCast, Int.natAbs_natCast] at h5
  omega
theorem plus_lt {b : Nat} {x y : Rat} (hx : Lt b x) (hy : Lt b y) : Lt (2 * (b * b)) (x + y) := by
  refine ⟨?_, ?_⟩
  · rw [plus_num]
    exact Nat.lt_of_le_of_lt (Int.natAbs_ediv_le_natAbs _ _) (pn_lt hx hy)
  · rw [plus_den]
    have h1 : y.den / pt x y < b := Nat.lt_of_le_of_lt (Nat.div_le_self _ _) hy.2
    have h2 : x.den / pg x y < b := Nat.lt_of_le_of_lt (Nat.div_le_self _ _) hx.2
    have := Nat.mul_lt_mul'' h2 h1
    omega
theorem neg_lt {b : Nat} {x : Rat} (hx : Lt b x) : Lt b (-x) := ⟨by show (-x.num).natAbs < b; rw [Int.natAbs_neg]; exact hx.1, hx.2⟩
theorem sub_lt {b : Nat} {x y : Rat} (hx : Lt b x) (hy : Lt b y) : Lt (2 * (b * b)) (x - y) := by
  rw [Rat.sub_eq_add_neg]; exact plus_lt hx (neg_lt hy)
theorem times_lt {b : Nat} {x y : Rat} (hx : Lt b x) (hy : Lt b y) : Lt (b * b) (x * y) := by
  refine ⟨?_, ?_⟩
  · rw [times_num, Int.natAbs_mul]
    exact Nat.mul_lt_mul'' (Nat.lt_of_le_of_lt (Int.natAbs_ediv_le_natAbs _ _) hx.1) (Nat.lt_of_le_of_lt (Int.natAbs_ediv_le_natAbs _ _) hy.1)
  · rw [times_den]
    exact Nat.mul_lt_mul'' (Nat.lt_of_le_of_lt (Nat.div_le_self _ _) hx.2) (Nat.lt_of_le_of_lt (Nat.div_le_self _ _) hy.2)
theorem num_ne {x : Rat} (h : x ≠ 0) : x.num ≠ 0 := fun e => h (Rat.num_eq_zero.1 e)
theorem inv_lt {b : Nat} {x : Rat} (hx : Lt b x) (h0 : x ≠ 0) : Lt b x⁻¹ := by
  have hn := num_ne h0
  rcases Int.lt_or_gt_of_ne hn with h | h
  · obtain ⟨e1, e2⟩ := inv_neg h
    refine ⟨by rw [e1, Int.natAbs_neg, Int.natAbs_natCast]; exact hx.2, by rw [e2]; exact hx.1⟩
  · obtain ⟨e1, e2⟩ := inv_pos h
    refine ⟨by rw [e1, Int.natAbs_natCast]; exact hx.2, by rw [e2]; exact hx.1⟩
theorem over_lt {b : Nat} {x y : Rat} (hx : Lt b x) (hy : Lt b y) (h0 : y ≠ 0) : Lt (b * b) (x / y) := by
  rw [Rat.div_def]; exact times_lt hx (inv_lt hy h0)
theorem Lt.digits {k : Nat} {x : Rat} (h : Lt (10 ^ k) x) (hk : 1 ≤ k) (hk4 : k ≤ 400) : Lib.nDigits x.num.natAbs ≤ 400 ∧ Lib.nDigits x.den ≤ 400 := by
  have key : ∀ {a : Nat} {k : Nat}, 1 ≤ k → a < 10 ^ k → Lib.nDigits a ≤ k := by
    intro a k
    induction k generalizing a with
    | zero => intro h; omega
    | succ k ih =>
      intro _ h
      by_cases h10 : a < 10
      · rw [Lib.nDigits_small h10]; omega
      · rw [Lib.nDigits_big h10]
        rw [Nat.pow_succ] at h
        have hk : 1 ≤ k := by
          rcases Nat.eq_zero_or_pos k with h0 | h0
          · subst h0; omega
          · exact h0
        have := ih (a := a / 10) hk (by omega)
        omega
  exact ⟨Nat.le_trans (key hk h.1) hk4, Nat.le_trans (key hk h.2) hk4⟩
theorem Lt.text {k : Nat} {x : Rat} (h : Lt (10 ^ k) x) (hk : 1 ≤ k) (hk4 : k ≤ 400) : RatIs (rtx x) x := ⟨rfl, (h.digits hk hk4).1, (h.digits hk hk4).2⟩
end F
/-- A fraction's text is one fraction's only. -/
theorem itoa_inj {a b : Int} (h : Lib.itoa a = Lib.itoa b) : a = b := by
  have key : ∀ {u v : Nat}, Lib.decDigits u = Lib.decDigits v → u = v := by
    intro u v e
    rw [← T.num_decDigits u, ← T.num_decDigits v, e]
  by_cases ha : a < 0 <;> by_cases hb : b < 0
  · rw [T.itoa_neg ha, T.itoa_neg hb] at h
    injection h with _ h
    have := key h; omega
  · rw [T.itoa_neg ha, T.itoa_nonneg (by omega)] at h
    have h2 := T.decDigits_digit b.natAbs 45 (by rw [← h]; simp)
    exact absurd (T.digit_iff.1 h2) (by decide)
  · rw [T.itoa_neg hb, T.itoa_nonneg (by omega)] at h
    have h2 := T.decDigits_digit a.natAbs 45 (by rw [h]; simp)
    exact absurd (T.digit_iff.1 h2) (by decide)
  · rw [T.itoa_nonneg (by omega), T.itoa_nonneg (by omega)] at h
    have := key h; omega
theorem rtx_inj {x y : Rat} (h : rtx x = rtx y) : x = y := by
  have hc : Lib.cut (rtx x) [47] = Lib.cut (rtx y) [47] := by rw [h]
  rw [cut_rtx, cut_rtx] at hc
  by_cases hx : x.den = 1 <;> by_cases hy : y.den = 1
  · rw [if_pos hx, if_pos hy] at hc
    injection hc with h1 _
    exact Rat.ext (itoa_inj h1) (by rw [hx, hy])
  · rw [if_pos hx, if_neg hy] at hc
    injection hc with _ h1
    injection h1 with _ h2
    exact absurd h2 (by simp)
  · rw [if_neg hx, if_pos hy] at hc
    injection hc with _ h1
    injection h1 with _ h2
    exact absurd h2 (by simp)
  · rw [if_neg hx, if_neg hy] at hc
    injection hc with h1 h2
    injection h2 with h2 _
    have := itoa_inj h2
    exact Rat.ext (itoa_inj h1) (by omega)
end Go.Proofs.YtjghgbfagjhdgaaGreatDoor
namespace Go.Proofs.YtjghgbfagjhdgaaGreatDoor
open Go Go.RowKit

/-- v is the fraction x of package wide: in lowest terms; the zero value, whose denominator is 0, is 0. -/
def IsRat (w : World) (v : Value) (x : Rat) : Prop := ∃ s A l c t A' l' c', v = .agg #[.int .i64 s, .slice A l c, .int .i64 t, .slice A' l' c'] ∧ IsInt w (.agg #[.int .i64 s, .slice A l c]) x.num ∧
  ∃ d : Int, IsInt w (.agg #[.int .i64 t, .slice A' l' c']) d ∧ (d = (x.den : Int) ∨ (x = 0 ∧ d = 0))
theorem IsRat.keepB {w w' : World} {v : Value} {x : Rat} (h : IsRat w v x) {B : Nat} (hb : Below B w w') (hB : w.heap.size ≤ B) : IsRat w' v x := by
  obtain ⟨s, A, l, c, t, A', l', c', e, hn, d, hd, hx⟩ := h
  exact ⟨s, A, l, c, t, A', l', c', e, hn.below hb hB, d, hd.below hb hB, hx⟩
theorem IsRat.below {w w' : World} {v : Value} {x : Rat} (h : IsRat w v x) (hb : Below w.heap.size w w') : IsRat w' v x := h.keepB hb (Nat.le_refl _)
theorem IsRat.mk {w : World} {s t : Int} {A A' : Option Addr} {l c l' c' : Nat} {x : Rat} (hn : IsInt w (.agg #[.int .i64 s, .slice A l c]) x.num) (hd : IsInt w (.agg #[.int .i64 t, .slice A' l' c']) (x.den : Int)) :
    IsRat w (.agg #[.int .i64 s, .slice A l c, .int .i64 t, .slice A' l' c']) x := ⟨s, A, l, c, t, A', l', c', rfl, hn, _, hd, .inl rfl⟩
theorem IsRat.shape {w : World} {v : Value} {x : Rat} (h : IsRat w v x) : ∃ s A l c t A' l' c', v = .agg #[.int .i64 s, .slice A l c, .int .i64 t, .slice A' l' c'] := by
  obtain ⟨s, A, l, c, t, A', l', c', e, _⟩ := h
  exact ⟨s, A, l, c, t, A', l', c', e⟩
theorem IsRat.num {w : World} {s t : Int} {A A' : Option Addr} {l c l' c' : Nat} {x : Rat} (h : IsRat w (.agg #[.int .i64 s, .slice A l c, .int .i64 t, .slice A' l' c']) x) : IsInt w (.agg #[.int .i64 s, .slice A l c]) x.num := by
  obtain ⟨s1, A1, l1, c1, t1, A1', l1', c1', e, hn, _⟩ := h
  injection e with e
  simp at e
  obtain ⟨rfl, ⟨rfl, rfl, rfl⟩, _⟩ := e
  exact hn
theorem IsRat.den {w : World} {s t : Int} {A A' : Option Addr} {l c l' c' : Nat} {x : Rat} (h : IsRat w (.agg #[.int .i64 s, .slice A l c, .int .i64 t, .slice A' l' c']) x) : ∃ d : Int, IsInt w (.agg #[.int .i64 t, .slice A' l' c']) d ∧ (d = (x.den : Int) ∨ (x = 0 ∧ d = 0)) := by
  obtain ⟨s1, A1, l1, c1, t1, A1', l1', c1', e, _, d, hd, hx⟩ := h
  injection e with e
  simp at e
  obtain ⟨_, _, rfl, rfl, rfl, rfl⟩ := e
  exact ⟨d, hd, hx⟩
theorem IsInt.form {w : World} {v : Value} {z : Int} (h : IsInt w v z) : ∃ s A l c, v = .agg #[.int .i64 s, .slice A l c] := by
  obtain ⟨A, l, c, e, _⟩ := h
  exact ⟨_, A, l, c, e⟩

/-- What a place holds. -/
inductive Pl where
  | hole
  | int (z : Int)
  | rhole
  | rat (x : Rat)
  | fr (n d : Int)
/-- v is n over d, as it stands. -/
def IsFr (w : World) (v : Value) (n d : Int) : Prop := ∃ s A l c t A' l' c', v = .agg #[.int .i64 s, .slice A l c, .int .i64 t, .slice A' l' c'] ∧ IsInt w (.agg #[.int .i64 s, .slice A l c]) n ∧ IsInt w (.agg #[.int .i64 t, .slice A' l' c']) d
theorem IsFr.below {w w' : World} {v : Value} {n d : Int} (h : IsFr w v n d) (hb : Below w.heap.size w w') : IsFr w' v n d := by
  obtain ⟨s, A, l, c, t, A', l', c', e, hn, hd⟩ := h
  exact ⟨s, A, l, c, t, A', l', c', e, hn.below hb (Nat.le_refl _), hd.below hb (Nat.le_refl _)⟩
theorem IsFr.shape {w : World} {v : Value} {n d : Int} (h : IsFr w v n d) : ∃ s A l c t A' l' c', v = .agg #[.int .i64 s, .slice A l c, .int .i64 t, .slice A' l' c'] := by
  obtain ⟨s, A, l, c, t, A', l', c', e, _⟩ := h
  exact ⟨s, A, l, c, t, A', l', c', e⟩
theorem IsFr.parts {w : World} {s t : Int} {A A' : Option Addr} {l c l' c' : Nat} {n d : Int} (h : IsFr w (.agg #[.int .i64 s, .slice A l c, .int .i64 t, .slice A' l' c']) n d) : IsInt w (.agg #[.int .i64 s, .slice A l c]) n ∧ IsInt w (.agg #[.int .i64 t, .slice A' l' c']) d := by
  obtain ⟨s1, A1, l1, c1, t1, A1', l1', c1', e, hn, hd⟩ := h
  injection e with e
  simp at e
  obtain ⟨rfl, ⟨rfl, rfl, rfl⟩, rfl, rfl, rfl, rfl⟩ := e
  exact ⟨hn, hd⟩
theorem IsFr.rat {w : World} {v : Value} {x : Rat} (h : IsFr w v x.num (x.den : Int)) : IsRat w v x := by
  obtain ⟨s, A, l, c, t, A', l', c', e, hn, hd⟩ := h
  exact ⟨s, A, l, c, t, A', l', c', e, hn, _, hd, .inl rfl⟩
def Pl.At (w : World) (g : Nat) : Pl → Prop
  | .hole => ∃ s A l c, w.heap[g]? = some (.cells #[.int .i64 s, .slice A l c] 77 (0, 0))
  | .int z => ∃ s A l c, w.heap[g]? = some (.cells #[.int .i64 s, .slice A l c] 77 (0, 0)) ∧ IsInt w (.agg #[.int .i64 s, .slice A l c]) z
  | .rhole => ∃ s A l c t A' l' c', w.heap[g]? = some (.cells #[.int .i64 s, .slice A l c, .int .i64 t, .slice A' l' c'] 90 (0, 0))
  | .rat x => ∃ s A l c t A' l' c', w.heap[g]? = some (.cells #[.int .i64 s, .slice A l c, .int .i64 t, .slice A' l' c'] 90 (0, 0)) ∧ IsRat w (.agg #[.int .i64 s, .slice A l c, .int .i64 t, .slice A' l' c']) x
  | .fr n d => ∃ s A l c t A' l' c', w.heap[g]? = some (.cells #[.int .i64 s, .slice A l c, .int .i64 t, .slice A' l' c'] 90 (0, 0)) ∧ IsFr w (.agg #[.int .i64 s, .slice A l c, .int .i64 t, .slice A' l' c']) n d
/-- Its cells: none of them is a limb. -/
theorem Pl.At.block {w : World} {g : Nat} : ∀ {p : Pl}, p.At w g → ∃ cs ty, w.heap[g]? = some (.cells cs ty (0, 0)) ∧ noLimb cs = true
  | .hole, ⟨_, _, _, _, h⟩ => ⟨_, _, h, rfl⟩
  | .int _, ⟨_, _, _, _, h, _⟩ => ⟨_, _, h, rfl⟩
  | .rhole, ⟨_, _, _, _, _, _, _, _, h⟩ => ⟨_, _, h, rfl⟩
  | .rat _, ⟨_, _, _, _, _, _, _, _, h, _⟩ => ⟨_, _, h, rfl⟩
  | .fr _ _, ⟨_, _, _, _, _, _, _, _, h, _⟩ => ⟨_, _, h, rfl⟩
theorem Pl.At.lt {w : World} {g : Nat} {p : Pl} (h : p.At w g) : g < w.heap.size := by
  obtain ⟨_, _, h, _⟩ := h.block
  exact lt_of_block h
theorem Pl.At.keep {w w' : World} {g : Nat} (hg : w'.heap[g]? = w.heap[g]?) (hi : ∀ v z, IsInt w v z → IsInt w' v z) : ∀ {p : Pl}, p.At w g → p.At w' g
  | .hole, ⟨s, A, l, c, h⟩ => ⟨s, A, l, c, hg.trans h⟩
  | .int _, ⟨s, A, l, c, h, h1⟩ => ⟨s, A, l, c, hg.trans h, hi _ _ h1⟩
  | .rhole, ⟨s, A, l, c, t, A', l', c', h⟩ => ⟨s, A, l, c, t, A', l', c', hg.trans h⟩
  | .rat _, ⟨s, A, l, c, t, A', l', c', h, h1⟩ => ⟨s, A, l, c, t, A', l', c', hg.trans h, by
      obtain ⟨s, A, l, c, t, A', l', c', e, hn, d, hd, hx⟩ := h1
      exact ⟨s, A, l, c, t, A', l', c', e, hi _ _ hn, d, hi _ _ hd, hx⟩⟩
  | .fr _ _, ⟨s, A, l, c, t, A', l', c', h, h1⟩ => ⟨s, A, l, c, t, A', l', c', hg.trans h, by
      obtain ⟨s, A, l, c, t, A', l', c', e, hn, hd⟩ := h1
      exact ⟨s, A, l, c, t, A', l', c', e, hi _ _ hn, hi _ _ hd⟩⟩
theorem Pl.At.below {w w' : World} {g : Nat} {p : Pl} (h : p.At w g) (hb : Below w.heap.size w w') : p.At w' g := h.keep (hb.block _ h.lt) fun _ _ hi => hi.below hb (Nat.le_refl _)

structure Pls (w0 : World) (ps : List (Nat × Pl)) (w : World) : Prop where
  mem : ∀ p ∈ ps, p.2.At w p.1
  own : ∀ p ∈ ps, w0.heap.size ≤ p.1
  one : (ps.map (·.1)).Nodup
  below : Below w0.heap.size w0 w
section
variable {w0 w w' : World} {ps : List (Nat × Pl)}
theorem Pls.start (w : World) : Pls w [] w := ⟨fun _ h => absurd h (by simp), fun _ h => absurd h (by simp), by simp, Below.refl _ _⟩
theorem Pls.next (h : Pls w0 ps w) (hb : Below w.heap.size w w') : Pls w0 ps w' :=
  ⟨fun p hp => (h.mem p hp).below hb, h.own, h.one, h.below.trans (hb.mono h.below.size)⟩
theorem Pls.drew (h : Pls w0 ps w) : Pls w0 ps w.drew := ⟨fun p hp => (h.mem p hp).keep rfl fun _ _ hi => hi, h.own, h.one, h.below.drew⟩
theorem Pls.add (h : Pls w0 ps w) {g : Nat} {p : Pl} (hp : p.At w g) (h0 : w0.heap.size ≤ g) (hn : ∀ q ∈ ps, q.1 ≠ g) : Pls w0 (ps ++ [(g, p)]) w := by
  refine ⟨fun q hq => ?_, fun q hq => ?_, ?_, h.below⟩
  · rcases List.mem_append.1 hq with h1 | h1
    · exact h.mem q h1
    · rw [List.mem_singleton] at h1; subst h1; exact hp
  · rcases List.mem_append.1 hq with h1 | h1
    · exact h.own q h1
    · rw [List.mem_singleton] at h1; subst h1; exact h0
  · rw [List.map_append, List.nodup_append]
    refine ⟨h.one, by simp, fun a ha b hb => ?_⟩
    obtain ⟨x, hx, rfl⟩ := List.mem_map.1 ha
    simp only [List.map_cons, List.map_nil, List.mem_singleton] at hb
    rw [hb]
    exact hn x hx
theorem Pls.lt (h : Pls w0 ps w) {p : Nat × Pl} (hp : p ∈ ps) : p.1 < w.heap.size := (h.mem p hp).lt
theorem Pls.alloc (h : Pls w0 ps w) {cs : Array Value} {ty : TypeId} {p : Pl} (hp : p.At (w.alloc (.cells cs ty)) w.heap.size) : Pls w0 (ps ++ [(w.heap.size, p)]) (w.alloc (.cells cs ty)) :=
  (h.next ((Below.refl _ _).alloc (Nat.le_refl _) _)).add hp h.below.size fun q hq e => by
    have := h.lt hq
    omega
theorem Pls.at_ (h : Pls w0 ps w) (i : Nat) {g : Nat} {p : Pl} (hp : ps[i]? = some (g, p)) : p.At w g := h.mem _ (List.mem_of_getElem? hp)
theorem Pls.ge (h : Pls w0 ps w) (i : Nat) {g : Nat} {p : Pl} (hp : ps[i]? = some (g, p)) : w0.heap.size ≤ g := h.own _ (List.mem_of_getElem? hp)
theorem Pls.int (h : Pls w0 ps w) (i : Nat) {g : Nat} {z : Int} (hp : ps[i]? = some (g, .int z)) : ∃ s A l c, w.cell? ⟨g, 0, none⟩ = some (.int .i64 s) ∧ w.cell? ⟨g, 1, none⟩ = some (.slice A l c) ∧ IsInt w (.agg #[.int .i64 s, .slice A l c]) z := by
  obtain ⟨s, A, l, c, h1, h2⟩ := h.at_ i hp
  exact ⟨s, A, l, c, by simp [World.cell?, h1], by simp [World.cell?, h1], h2⟩
theorem Pls.rat (h : Pls w0 ps w) (i : Nat) {g : Nat} {x : Rat} (hp : ps[i]? = some (g, .rat x)) : ∃ s A l c t A' l' c', w.cell? ⟨g, 0, none⟩ = some (.int .i64 s) ∧ w.cell? ⟨g, 1, none⟩ = some (.slice A l c) ∧
    w.cell? ⟨g, 2, none⟩ = some (.int .i64 t) ∧ w.cell? ⟨g, 3, none⟩ = some (.slice A' l' c') ∧ IsRat w (.agg #[.int .i64 s, .slice A l c, .int .i64 t, .slice A' l' c']) x := by
  obtain ⟨s, A, l, c, t, A', l', c', h1, h2⟩ := h.at_ i hp
  exact ⟨s, A, l, c, t, A', l', c', by simp [World.cell?, h1], by simp [World.cell?, h1], by simp [World.cell?, h1], by simp [World.cell?, h1], h2⟩
theorem Pls.fr (h : Pls w0 ps w) (i : Nat) {g : Nat} {n d : Int} (hp : ps[i]? = some (g, .fr n d)) : ∃ s A l c t A' l' c', w.cell? ⟨g, 0, none⟩ = some (.int .i64 s) ∧ w.cell? ⟨g, 1, none⟩ = some (.slice A l c) ∧
    w.cell? ⟨g, 2, none⟩ = some (.int .i64 t) ∧ w.cell? ⟨g, 3, none⟩ = some (.slice A' l' c') ∧ IsFr w (.agg #[.int .i64 s, .slice A l c, .int .i64 t, .slice A' l' c']) n d := by
  obtain ⟨s, A, l, c, t, A', l', c', h1, h2⟩ := h.at_ i hp
  exact ⟨s, A, l, c, t, A', l', c', by simp [World.cell?, h1], by simp [World.cell?, h1], by simp [World.cell?, h1], by simp [World.cell?, h1], h2⟩
theorem Pls.hole (h : Pls w0 ps w) (i : Nat) {g : Nat} (hp : ps[i]? = some (g, .hole)) : ∃ u0 u1, w.cell? ⟨g, 0, none⟩ = some u0 ∧ w.cell? ⟨g, 1, none⟩ = some u1 ∧ w.frozen? ⟨g, 0, none⟩ = false ∧ w.frozen? ⟨g, 1, none⟩ = false := by
  obtain ⟨s, A, l, c, h1⟩ := h.at_ i hp
  exact ⟨.int .i64 s, .slice A l c, by simp [World.cell?, h1], by simp [World.cell?, h1], by simp [World.frozen?, h1], by simp [World.frozen?, h1]⟩
theorem Pls.rhole (h : Pls w0 ps w) (i : Nat) {g : Nat} (hp : ps[i]? = some (g, .rhole)) : ∃ u0 u1 u2 u3, w.cell? ⟨g, 0, none⟩ = some u0 ∧ w.cell? ⟨g, 1, none⟩ = some u1 ∧ w.cell? ⟨g, 2, none⟩ = some u2 ∧ w.cell? ⟨g, 3, none⟩ = some u3 ∧
    w.frozen? ⟨g, 0, none⟩ = false ∧ w.frozen? ⟨g, 1, none⟩ = false ∧ w.frozen? ⟨g, 2, none⟩ = false ∧ w.frozen? ⟨g, 3, none⟩ = false := by
  obtain ⟨s, A, l, c, t, A', l', c', h1⟩ := h.at_ i hp
  exact ⟨.int .i64 s, .slice A l c, .int .i64 t, .slice A' l' c', by simp [World.cell?, h1], by simp [World.cell?, h1], by simp [World.cell?, h1], by simp [World.cell?, h1], by simp [World.frozen?, h1], by simp [World.frozen?, h1], by simp [World.frozen?, h1], by simp [World.frozen?, h1]⟩
/-- Setting a cell of a place leaves integers as they are. -/
theorem int_far {g : Nat} {cs : Array Value} {ty : TypeId} (hg : w.heap[g]? = some (.cells cs ty (0, 0))) (hl : noLimb cs = true) (j : Nat) (u : Value) {v : Value} {z : Int} (hv : IsInt w v z) : IsInt (w.setCell ⟨g, j, none⟩ u) v z :=
  Frame.int (w := w) (w0 := { w with heap := #[] }) (bs := [⟨g, cs, ty⟩]) ⟨fun b hb => by rw [List.mem_singleton] at hb; subst hb; exact hg, fun b _ => Nat.zero_le _, by simp, ⟨rfl, rfl, rfl, Nat.zero_le _, fun k hk => absurd hk (Nat.not_lt_zero _)⟩⟩ 0 rfl hl j u hv
theorem rat_far {g : Nat} {cs : Array Value} {ty : TypeId} (hg : w.heap[g]? = some (.cells cs ty (0, 0))) (hl : noLimb cs = true) (j : Nat) (u : Value) {v : Value} {x : Rat} (hv : IsRat w v x) : IsRat (w.setCell ⟨g, j, none⟩ u) v x := by
  obtain ⟨s, A, l, c, t, A', l', c', e, hn, d, hd, hx⟩ := hv
  exact ⟨s, A, l, c, t, A', l', c', e, int_far hg hl j u hn, d, int_far hg hl j u hd, hx⟩
theorem set_next {g j : Nat} {cs : Array Value} {ty : TypeId} (hg : w.heap[g]? = some (.cells cs ty (0, 0))) (u : Value) : (w.setCell ⟨g, j, none⟩ u).heap[g]? = some (.cells (cs.setIfInBounds j u) ty (0, 0)) := Lib.heap_setCell_same hg u
/-- An integer is stored at a place for one. -/
def stInt (w : World) (g : Nat) (s : Int) (A : Option Addr) (l c : Nat) : World := (w.setCell ⟨g, 0, none⟩ (.int .i64 s)).setCell ⟨g, 1, none⟩ (.slice A l c)
def stRat (w : World) (g : Nat) (s : Int) (A : Option Addr) (l c : Nat) (t : Int) (A' : Option Addr) (l' c' : Nat) : World := (((w.setCell ⟨g, 0, none⟩ (.int .i64 s)).setCell ⟨g, 1, none⟩ (.slice A l c)).setCell ⟨g, 2, none⟩ (.int .i64 t)).setCell ⟨g, 3, none⟩ (.slice A' l' c')
theorem stInt_keep {g : Nat} {s0 : Int} {A0 : Option Addr} {l0 c0 : Nat} (hg : w.heap[g]? = some (.cells #[.int .i64 s0, .slice A0 l0 c0] 77 (0, 0))) (s : Int) (A : Option Addr) (l c : Nat) :
    (∀ v z, IsInt w v z → IsInt (stInt w g s A l c) v z) ∧ (stInt w g s A l c).heap[g]? = some (.cells #[.int .i64 s, .slice A l c] 77 (0, 0)) ∧ ∀ k, k ≠ g → (stInt w g s A l c).heap[k]? = w.heap[k]? := by
  have h1 := set_next (j := 0) hg (.int .i64 s)
  have h2 := set_next (j := 1) h1 (.slice A l c)
  refine ⟨fun v z hv => int_far h1 rfl 1 _ (int_far hg rfl 0 _ hv), h2, fun k hk => ?_⟩
  exact (Below.heap_setCell _ _ _ _ hk).trans (Below.heap_setCell _ _ _ _ hk)
theorem stRat_keep {g : Nat} {s0 t0 : Int} {A0 A0' : Option Addr} {l0 c0 l0' c0' : Nat} (hg : w.heap[g]? = some (.cells #[.int .i64 s0, .slice A0 l0 c0, .int .i64 t0, .slice A0' l0' c0'] 90 (0, 0))) (s : Int) (A : Option Addr) (l c : Nat) (t : Int) (A' : Option Addr) (l' c' : Nat) :
    (∀ v z, IsInt w v z → IsInt (stRat w g s A l c t A' l' c') v z) ∧ (stRat w g s A l c t A' l' c').heap[g]? = some (.cells #[.int .i64 s, .slice A l c, .int .i64 t, .slice A' l' c'] 90 (0, 0)) ∧ ∀ k, k ≠ g → (stRat w g s A l c t A' l' c').heap[k]? = w.heap[k]? := by
  have h1 := set_next (j := 0) hg (.int .i64 s)
  have h2 := set_next (j := 1) h1 (.slice A l c)
  have h3 := set_next (j := 2) h2 (.int .i64 t)
  have h4 := set_next (j := 3) h3 (.slice A' l' c')
  refine ⟨fun v z hv => int_far h3 rfl 3 _ (int_far h2 rfl 2 _ (int_far h1 rfl 1 _ (int_far hg rfl 0 _ hv))), h4, fun k hk => ?_⟩
  exact (Below.heap_setCell _ _ _ _ hk).trans ((Below.heap_setCell _ _ _ _ hk).trans ((Below.heap_setCell _ _ _ _ hk).trans (Below.heap_setCell _ _ _ _ hk)))
theorem getElem_of_some {α : Type} {l : List α} {i : Nat} {a : α} (h : l[i]? = some a) : ∃ hi : i < l.length, l[i] = a := by
  obtain ⟨hi, e⟩ := List.getElem?_eq_some_iff.1 h
  exact ⟨hi, e⟩
/-- One place changes what it holds. -/
theorem Pls.change (h : Pls w0 ps w) (i : Nat) {g : Nat} {p q : Pl} (hp : ps[i]? = some (g, p)) (hq : q.At w' g) (hi : ∀ v z, IsInt w v z → IsInt w' v z) (hk : ∀ k, k ≠ g → w'.heap[k]? = w.heap[k]?) (hb : Below w0.heap.size w0 w') : Pls w0 (ps.set i (g, q)) w' := by
  obtain ⟨hil, hie⟩ := getElem_of_some hp
  have hmap : (ps.set i (g, q)).map (·.1) = ps.map (·.1) := by
    rw [List.map_set]
    refine List.ext_getElem? fun k => ?_
    rw [List.getElem?_set]
    by_cases hki : i = k
    · subst hki; simp [hil, hie]
    · rw [if_neg hki]
  refine ⟨fun r hr => ?_, fun r hr => ?_, by rw [hmap]; exact h.one, hb⟩
  · obtain ⟨k, hkl, hkr⟩ := List.getElem_of_mem hr
    rw [List.getElem_set] at hkr
    by_cases hik : i = k
    · rw [if_pos hik] at hkr; subst hkr; exact hq
    · rw [if_neg hik] at hkr
      subst hkr
      have hk' : k < ps.length := by simpa using hkl
      have hne : ps[k].1 ≠ g := by
        intro e
        have h2 : (ps.map (·.1))[k]? = (ps.map (·.1))[i]? := by
          rw [List.getElem?_map, List.getElem?_map, hp, List.getElem?_eq_getElem hk']; simp [e]
        have := (List.getElem?_inj (by simpa using hk') h.one).1 h2
        exact hik this.symm
      exact (h.mem _ (List.getElem_mem hk')).keep (hk _ hne) hi
  · obtain ⟨k, hkl, hkr⟩ := List.getElem_of_mem hr
    rw [List.getElem_set] at hkr
    by_cases hik : i = k
    · rw [if_pos hik] at hkr; subst hkr; exact h.ge i hp
    · rw [if_neg hik] at hkr; subst hkr; exact h.own _ (List.getElem_mem _)
theorem Pls.storeInt (h : Pls w0 ps w) (i : Nat) {g : Nat} (hp : ps[i]? = some (g, .hole)) {s : Int} {A : Option Addr} {l c : Nat} {z : Int} (hz : IsInt w (.agg #[.int .i64 s, .slice A l c]) z) : Pls w0 (ps.set i (g, .int z)) (stInt w g s A l c) := by
  obtain ⟨s0, A0, l0, c0, hg⟩ := h.at_ i hp
  obtain ⟨k1, k2, k3⟩ := stInt_keep hg s A l c
  refine h.change i hp ⟨s, A, l, c, k2, k1 _ _ hz⟩ k1 k3 ?_
  have := h.ge i hp
  exact (h.below.setCell (by simpa using this) _).setCell (by simpa using this) _
theorem Pls.storeRat (h : Pls w0 ps w) (i : Nat) {g : Nat} (hp : ps[i]? = some (g, .rhole)) {s t : Int} {A A' : Option Addr} {l c l' c' : Nat} {x : Rat} (hz : IsRat w (.agg #[.int .i64 s, .slice A l c, .int .i64 t, .slice A' l' c']) x) : Pls w0 (ps.set i (g, .rat x)) (stRat w g s A l c t A' l' c') := by
  obtain ⟨s0, A0, l0, c0, t0, A0', l0', c0', hg⟩ := h.at_ i hp
  obtain ⟨k1, k2, k3⟩ := stRat_keep hg s A l c t A' l' c'
  have hr : IsRat (stRat w g s A l c t A' l' c') (.agg #[.int .i64 s, .slice A l c, .int .i64 t, .slice A' l' c']) x := by
    obtain ⟨s, A, l, c, t, A', l', c', e, hn, d, hd, hx⟩ := hz
    exact ⟨s, A, l, c, t, A', l', c', e, k1 _ _ hn, d, k1 _ _ hd, hx⟩
  refine h.change i hp ⟨s, A, l, c, t, A', l', c', k2, hr⟩ k1 k3 ?_
  have := h.ge i hp
  exact (((h.below.setCell (by simpa using this) _).setCell (by simpa using this) _).setCell (by simpa using this) _).setCell (by simpa using this) _
end
section
variable {w0 w : World} {ps : List (Nat × Pl)}
theorem Pls.boxRat (h : Pls w0 ps w) {s t : Int} {A A' : Option Addr} {l c l' c' : Nat} {x : Rat} (hx : IsRat w (.agg #[.int .i64 s, .slice A l c, .int .i64 t, .slice A' l' c']) x) {g : Nat} (hg : g = w.heap.size) :
    Pls w0 (ps ++ [(g, .rat x)]) (w.alloc (.cells #[.int .i64 s, .slice A l c, .int .i64 t, .slice A' l' c'] 90)) := by
  subst hg; exact h.alloc ⟨s, A, l, c, t, A', l', c', heap_alloc_new w _, hx.below ((Below.refl _ _).alloc (Nat.le_refl _) _)⟩
theorem Pls.boxFr (h : Pls w0 ps w) {s t : Int} {A A' : Option Addr} {l c l' c' : Nat} {n d : Int} (hx : IsFr w (.agg #[.int .i64 s, .slice A l c, .int .i64 t, .slice A' l' c']) n d) {g : Nat} (hg : g = w.heap.size) :
    Pls w0 (ps ++ [(g, .fr n d)]) (w.alloc (.cells #[.int .i64 s, .slice A l c, .int .i64 t, .slice A' l' c'] 90)) := by
  subst hg; exact h.alloc ⟨s, A, l, c, t, A', l', c', heap_alloc_new w _, hx.below ((Below.refl _ _).alloc (Nat.le_refl _) _)⟩
theorem Pls.boxInt (h : Pls w0 ps w) {s : Int} {A : Option Addr} {l c : Nat} {z : Int} (hz : IsInt w (.agg #[.int .i64 s, .slice A l c]) z) {g : Nat} (hg : g = w.heap.size) :
    Pls w0 (ps ++ [(g, .int z)]) (w.alloc (.cells #[.int .i64 s, .slice A l c] 77)) := by
  subst hg; exact h.alloc ⟨s, A, l, c, heap_alloc_new w _, hz.below ((Below.refl _ _).alloc (Nat.le_refl _) _) (Nat.le_refl _)⟩
theorem Pls.newHole (h : Pls w0 ps w) {g : Nat} (hg : g = w.heap.size) : Pls w0 (ps ++ [(g, .hole)]) (w.alloc (.cells #[.int .i64 0, .slice none 0 0] 77)) := by
  subst hg; exact h.alloc ⟨_, _, _, _, heap_alloc_new w _⟩
theorem Pls.newRhole (h : Pls w0 ps w) {g : Nat} (hg : g = w.heap.size) : Pls w0 (ps ++ [(g, .rhole)]) (w.alloc (.cells #[.int .i64 0, .slice none 0 0, .int .i64 0, .slice none 0 0] 90)) := by
  subst hg; exact h.alloc ⟨_, _, _, _, _, _, _, _, heap_alloc_new w _⟩
/-- What is known behind a store of an integer. -/
theorem Pls.stored (h : Pls w0 ps w) (i : Nat) {g : Nat} (hp : ps[i]? = some (g, .hole)) {s : Int} {A : Option Addr} {l c : Nat} {z : Int} (hz : IsInt w (.agg #[.int .i64 s, .slice A l c]) z) :
    (stInt w g s A l c).cell? ⟨g, 0, none⟩ = some (.int .i64 s) ∧ (stInt w g s A l c).cell? ⟨g, 1, none⟩ = some (.slice A l c) ∧ IsInt (stInt w g s A l c) (.agg #[.int .i64 s, .slice A l c]) z ∧ Pls w0 (ps.set i (g, .int z)) (stInt w g s A l c) := by
  obtain ⟨s0, A0, l0, c0, hg⟩ := h.at_ i hp
  obtain ⟨k1, k2, _⟩ := stInt_keep hg s A l c
  exact ⟨by simp [World.cell?, k2], by simp [World.cell?, k2], k1 _ _ hz, h.storeInt i hp hz⟩
theorem Pls.rstored (h : Pls w0 ps w) (i : Nat) {g : Nat} (hp : ps[i]? = some (g, .rhole)) {s t : Int} {A A' : Option Addr} {l c l' c' : Nat} {x : Rat} (hz : IsRat w (.agg #[.int .i64 s, .slice A l c, .int .i64 t, .slice A' l' c']) x) :
    (stRat w g s A l c t A' l' c').cell? ⟨g, 0, none⟩ = some (.int .i64 s) ∧ (stRat w g s A l c t A' l' c').cell? ⟨g, 1, none⟩ = some (.slice A l c) ∧ (stRat w g s A l c t A' l' c').cell? ⟨g, 2, none⟩ = some (.int .i64 t) ∧ (stRat w g s A l c t A' l' c').cell? ⟨g, 3, none⟩ = some (.slice A' l' c') ∧
    IsRat (stRat w g s A l c t A' l' c') (.agg #[.int .i64 s, .slice A l c, .int .i64 t, .slice A' l' c']) x ∧ Pls w0 (ps.set i (g, .rat x)) (stRat w g s A l c t A' l' c') := by
  obtain ⟨s0, A0, l0, c0, t0, A0', l0', c0', hg⟩ := h.at_ i hp
  obtain ⟨k1, k2, _⟩ := stRat_keep hg s A l c t A' l' c'
  refine ⟨by simp [World.cell?, k2], by simp [World.cell?, k2], by simp [World.cell?, k2], by simp [World.cell?, k2], ?_, h.storeRat i hp hz⟩
  obtain ⟨s, A, l, c, t, A', l', c', e, hn, d, hd, hx⟩ := hz
  exact ⟨s, A, l, c, t, A', l', c', e, k1 _ _ hn, d, k1 _ _ hd, hx⟩
theorem Pls.frstored (h : Pls w0 ps w) (i : Nat) {g : Nat} (hp : ps[i]? = some (g, .rhole)) {s t : Int} {A A' : Option Addr} {l c l' c' : Nat} {n d : Int} (hz : IsFr w (.agg #[.int .i64 s, .slice A l c, .int .i64 t, .slice A' l' c']) n d) :
    (stRat w g s A l c t A' l' c').cell? ⟨g, 0, none⟩ = some (.int .i64 s) ∧ (stRat w g s A l c t A' l' c').cell? ⟨g, 1, none⟩ = some (.slice A l c) ∧ (stRat w g s A l c t A' l' c').cell? ⟨g, 2, none⟩ = some (.int .i64 t) ∧ (stRat w g s A l c t A' l' c').cell? ⟨g, 3, none⟩ = some (.slice A' l' c') ∧
    IsFr (stRat w g s A l c t A' l' c') (.agg #[.int .i64 s, .slice A l c, .int .i64 t, .slice A' l' c']) n d ∧ Below w0.heap.size w0 (stRat w g s A l c t A' l' c') ∧ Pls w0 (ps.set i (g, .fr n d)) (stRat w g s A l c t A' l' c') := by
  have hge := h.ge i hp
  obtain ⟨s0, A0, l0, c0, t0, A0', l0', c0', hg⟩ := h.at_ i hp
  obtain ⟨k1, k2, k3⟩ := stRat_keep hg s A l c t A' l' c'
  have hb : Below w0.heap.size w0 (stRat w g s A l c t A' l' c') := (((h.below.setCell (by simpa using hge) _).setCell (by simpa using hge) _).setCell (by simpa using hge) _).setCell (by simpa using hge) _
  have hf : IsFr (stRat w g s A l c t A' l' c') (.agg #[.int .i64 s, .slice A l c, .int .i64 t, .slice A' l' c']) n d := by
    obtain ⟨s, A, l, c, t, A', l', c', e, hn, hd⟩ := hz
    exact ⟨s, A, l, c, t, A', l', c', e, k1 _ _ hn, k1 _ _ hd⟩
  exact ⟨by simp [World.cell?, k2], by simp [World.cell?, k2], by simp [World.cell?, k2], by simp [World.cell?, k2], hf, hb, h.change i hp ⟨s, A, l, c, t, A', l', c', k2, hf⟩ k1 k3 hb⟩
/-- A place for an integer that is left behind. -/
theorem Pls.left (h : Pls w0 ps w) (i : Nat) {g : Nat} {z : Int} (hp : ps[i]? = some (g, .int z)) : Pls w0 (ps.set i (g, .hole)) w := by
  obtain ⟨s, A, l, c, h1, _⟩ := h.at_ i hp
  exact h.change i hp ⟨s, A, l, c, h1⟩ (fun _ _ h => h) (fun _ _ => rfl) h.below
end
/-- What stands below the bar: the denominator, or the 0 of the zero value. -/
def DenIs (w : World) (v : Value) (x : Rat) : Prop := ∃ d : Int, IsInt w v d ∧ (d = (x.den : Int) ∨ (x = 0 ∧ d = 0))
theorem DenIs.below {w w' : World} {v : Value} {x : Rat} (h : DenIs w v x) (hb : Below w.heap.size w w') : DenIs w' v x := by
  obtain ⟨d, hd, hx⟩ := h
  exact ⟨d, hd.below hb (Nat.le_refl _), hx⟩
theorem neg_den {w : World} {v : Value} {x : Rat} (h : DenIs w v x) : DenIs w v (-x) := by
  obtain ⟨d, hd, hx⟩ := h
  refine ⟨d, hd, ?_⟩
  rcases hx with h | ⟨h1, h2⟩
  · exact .inl h
  · exact .inr ⟨by rw [h1]; rfl, h2⟩
theorem DenIs.form {w : World} {v : Value} {x : Rat} (h : DenIs w v x) : ∃ s A l c, v = .agg #[.int .i64 s, .slice A l c] := by
  obtain ⟨d, hd, _⟩ := h
  exact hd.form
theorem IsRat.join {w : World} {s t : Int} {A A' : Option Addr} {l c l' c' : Nat} {x : Rat} (hn : IsInt w (.agg #[.int .i64 s, .slice A l c]) x.num) (hd : DenIs w (.agg #[.int .i64 t, .slice A' l' c']) x) :
    IsRat w (.agg #[.int .i64 s, .slice A l c, .int .i64 t, .slice A' l' c']) x := ⟨s, A, l, c, t, A', l', c', rfl, hn, hd⟩
theorem Pls.keepInt {w0 w : World} {ps : List (Nat × Pl)} (h : Pls w0 ps w) (i : Nat) {g : Nat} (hp : ps[i]? = some (g, .hole)) (s : Int) (A : Option Addr) (l c : Nat) {v : Value} {z : Int} (hz : IsInt w v z) : IsInt (stInt w g s A l c) v z := by
  obtain ⟨s0, A0, l0, c0, hg⟩ := h.at_ i hp
  exact (stInt_keep hg s A l c).1 _ _ hz
/-- What a region keeps that makes no store ahead of its end: the places, and the (at most two) new ones. -/
def RE (w0 : World) (ps : List (Nat × Pl)) (n0 i j : Nat) (D : List Nat) (vals : Nat → Value) (w : World) : Prop :=
  Pls w0 ps w ∧ RelV.Fresh2 n0 i j D vals w ∧ n0 ≤ w.heap.size ∧ w0.heap.size ≤ n0 ∧ ∀ q ∈ ps, q.1 < n0
section
variable {w0 w w' : World} {ps : List (Nat × Pl)} {n0 i j k : Nat} {D : List Nat} {vals : Nat → Value} {v : Value}
theorem RE.start (h : Pls w0 ps w) (i j : Nat) (vals : Nat → Value) : RE w0 ps w.heap.size i j [] vals w.drew := ⟨h.drew, RelV.Fresh2.start _ _, Nat.le_refl _, h.below.size, fun _ hq => h.lt hq⟩
theorem RE.step (h : RE w0 ps n0 i j D vals w) (hb : Below w.heap.size w w') (hi : k ≠ i) (hj : k ≠ j) : RE w0 ps n0 i j (D ++ [k]) (fun x => if x = k then v else vals x) w' :=
  ⟨h.1.next hb, h.2.1.other hb.size hi hj, Nat.le_trans h.2.2.1 hb.size, h.2.2.2⟩
theorem RE.same (h : RE w0 ps n0 i j D vals w) (hi : k ≠ i) (hj : k ≠ j) : RE w0 ps n0 i j (D ++ [k]) (fun x => if x = k then v else vals x) w := h.step (Below.refl _ _) hi hj
theorem RE.first (h : RE w0 ps n0 i j D vals w) (hij : i ≠ j) (o : Obj) : RE w0 ps n0 i j (D ++ [i]) (fun x => if x = i then .pointer (some ⟨w.heap.size, 0, none⟩) else vals x) (w.alloc o) := by
  have hb := (Below.refl w.heap.size w).alloc (Nat.le_refl _) o
  have hs : (w.alloc o).heap.size = w.heap.size + 1 := by simp
  exact ⟨h.1.next hb, h.2.1.first hij h.2.2.1 (by omega), Nat.le_trans h.2.2.1 hb.size, h.2.2.2⟩
theorem RE.second (h : RE w0 ps n0 i j D vals w) (hij : i ≠ j) (o : Obj) : RE w0 ps n0 i j (D ++ [j]) (fun x => if x = j then .pointer (some ⟨w.heap.size, 0, none⟩) else vals x) (w.alloc o) := by
  have hb := (Below.refl w.heap.size w).alloc (Nat.le_refl _) o
  have hs : (w.alloc o).heap.size = w.heap.size + 1 := by simp
  exact ⟨h.1.next hb, h.2.1.second hij h.2.2.1 (by omega), Nat.le_trans h.2.2.1 hb.size, h.2.2.2⟩
/-- What is known of a new place. -/
def NewAt (n0 : Nat) (p : Pl) (v : Value) (w : World) : Prop := ∃ g, v = .pointer (some ⟨g, 0, none⟩) ∧ n0 ≤ g ∧ p.At w g
theorem NewAt.below {p : Pl} (h : NewAt n0 p v w) (hb : Below w.heap.size w w') : NewAt n0 p v w' := by
  obtain ⟨g, e, h1, h2⟩ := h
  exact ⟨g, e, h1, h2.below hb⟩
theorem RE.newHole (h : RE w0 ps n0 i j D vals w) : NewAt n0 .hole (.pointer (some ⟨w.heap.size, 0, none⟩)) (w.alloc (.cells #[.int .i64 0, .slice none 0 0] 77)) := ⟨_, rfl, h.2.2.1, ⟨_, _, _, _, heap_alloc_new w _⟩⟩
/-- The new places join the others. -/
theorem RE.one (h : RE w0 ps n0 i j D vals w) {p : Pl} {g : Nat} (hg : n0 ≤ g) (hp : p.At w g) : Pls w0 (ps ++ [(g, p)]) w :=
  h.1.add hp (Nat.le_trans h.2.2.2.1 hg) fun q hq e => by have := h.2.2.2.2 q hq; omega
theorem RE.two (h : RE w0 ps n0 i j D vals w) (hi : i ∈ D) (hj : j ∈ D) {p q : Pl} {g g' : Nat} (e1 : vals i = .pointer (some ⟨g, 0, none⟩)) (hg : n0 ≤ g) (hp : p.At w g) (e2 : vals j = .pointer (some ⟨g', 0, none⟩)) (hg' : n0 ≤ g') (hq : q.At w g') :
    Pls w0 (ps ++ [(g, p)] ++ [(g', q)]) w ∧ g' ≠ g := by
  have hne : g' ≠ g := by
    intro e
    subst e
    exact h.2.1.2.2 hi hj (e1.trans e2.symm)
  refine ⟨(h.one hg hp).add hq (Nat.le_trans h.2.2.2.1 hg') fun r hr e => ?_, hne⟩
  rcases List.mem_append.1 hr with h1 | h1
  · have := h.2.2.2.2 r h1; omega
  · rw [List.mem_singleton] at h1; subst h1; exact hne e.symm
end
end Go.Proofs.YtjghgbfagjhdgaaGreatDoor
