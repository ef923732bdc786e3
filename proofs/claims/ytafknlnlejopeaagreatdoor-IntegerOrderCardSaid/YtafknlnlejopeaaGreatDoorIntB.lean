/- Plus, Minus, Times. -/
import Derived.Test.YtafknlnlejopeaaGreatDoorIntA
import Derived.Deep.RegionHeld3
import Derived.WalkSpells
namespace Go.Proofs.YtafknlnlejopeaaGreatDoor
open Go Go.RowKit

theorem IsNat.shape {w : World} {v : Value} {n : Nat} (h : IsNat w v n) : ∃ A l c, v = .slice A l c := by
  obtain ⟨A, l, c, e, _⟩ := h
  exact ⟨A, l, c, e⟩
/-- Two boxed integers and a place for a third. -/
def box3 (w : World) (p q : Bool) (s s' : Value) : World := ((w.alloc (.cells #[.bool p, s] 58)).alloc (.cells #[.bool q, s'] 58)).alloc (.cells #[.bool false, .slice none 0 0] 58)
structure Boxed (w0 w : World) (p q : Bool) (s s' : Value) : Prop where
  a0 : w.cell? ⟨w0.heap.size, 0, none⟩ = some (.bool p)
  a1 : w.cell? ⟨w0.heap.size, 1, none⟩ = some s
  b0 : w.cell? ⟨w0.heap.size + 1, 0, none⟩ = some (.bool q)
  b1 : w.cell? ⟨w0.heap.size + 1, 1, none⟩ = some s'
  r : ∃ b A l c, w.heap[w0.heap.size + 1 + 1]? = some (.cells #[.bool b, .slice A l c] 58 (0, 0))
  size : w0.heap.size + 3 ≤ w.heap.size
  below : Below w0.heap.size w0 w
theorem box3_boxed (w : World) (p q : Bool) (s s' : Value) : Boxed w (box3 w p q s s') p q s s' := by
  have e : (box3 w p q s s').heap = ((w.heap.push (.cells #[.bool p, s] 58)).push (.cells #[.bool q, s'] 58)).push (.cells #[.bool false, .slice none 0 0] 58) := rfl
  have h0 : (box3 w p q s s').heap[w.heap.size]? = some (.cells #[.bool p, s] 58 (0, 0)) := by
    rw [e, Array.getElem?_push, if_neg (by simp; omega), Array.getElem?_push, if_neg (by simp), Array.getElem?_push, if_pos rfl]
  have h1 : (box3 w p q s s').heap[w.heap.size + 1]? = some (.cells #[.bool q, s'] 58 (0, 0)) := by
    rw [e, Array.getElem?_push, if_neg (by simp), Array.getElem?_push, if_pos (by simp)]
  have h2 : (box3 w p q s s').heap[w.heap.size + 1 + 1]? = some (.cells #[.bool false, .slice none 0 0] 58 (0, 0)) := by
    rw [e, Array.getElem?_push, if_pos (by simp)]
  exact ⟨by simp [World.cell?, h0], by simp [World.cell?, h0], by simp [World.cell?, h1], by simp [World.cell?, h1], ⟨_, _, _, _, h2⟩, by rw [e]; simp,
    (((Below.refl _ _).alloc (Nat.le_refl _) _).alloc (by simp) _).alloc (by simp; omega) _⟩
section
variable {w0 w w' : World} {p q : Bool} {s s' : Value}
theorem Boxed.next (h : Boxed w0 w p q s s') {B : Nat} (hb : Below B w w') (hB : w.heap.size ≤ B) : Boxed w0 w' p q s s' :=
  ⟨(hb.cell (p := ⟨_, 0, none⟩) (by have := h.size; simp; omega)).trans h.a0, (hb.cell (p := ⟨_, 1, none⟩) (by have := h.size; simp; omega)).trans h.a1,
   (hb.cell (p := ⟨_, 0, none⟩) (by have := h.size; simp; omega)).trans h.b0, (hb.cell (p := ⟨_, 1, none⟩) (by have := h.size; simp; omega)).trans h.b1,
   by obtain ⟨b, A, l, c, e⟩ := h.r; exact ⟨b, A, l, c, (hb.block _ (by have := h.size; omega)).trans e⟩, Nat.le_trans h.size hb.size, h.below.trans (hb.mono (by have := h.size; omega))⟩
theorem Boxed.drew (h : Boxed w0 w p q s s') : Boxed w0 w.drew p q s s' := ⟨h.a0, h.a1, h.b0, h.b1, h.r, h.size, h.below.drew⟩
theorem Boxed.r0 (h : Boxed w0 w p q s s') : ∃ v, w.cell? ⟨w0.heap.size + 1 + 1, 0, none⟩ = some v := by
  obtain ⟨b, A, l, c, e⟩ := h.r
  exact ⟨.bool b, by simp [World.cell?, e]⟩
theorem Boxed.r1 (h : Boxed w0 w p q s s') : ∃ v, w.cell? ⟨w0.heap.size + 1 + 1, 1, none⟩ = some v := by
  obtain ⟨b, A, l, c, e⟩ := h.r
  exact ⟨.slice A l c, by simp [World.cell?, e]⟩
theorem Boxed.f0 (h : Boxed w0 w p q s s') : w.frozen? ⟨w0.heap.size + 1 + 1, 0, none⟩ = false := by
  obtain ⟨b, A, l, c, e⟩ := h.r
  simp [World.frozen?, e]
theorem Boxed.f1 (h : Boxed w0 w p q s s') : w.frozen? ⟨w0.heap.size + 1 + 1, 1, none⟩ = false := by
  obtain ⟨b, A, l, c, e⟩ := h.r
  simp [World.frozen?, e]
/-- The result as it is stored. -/
theorem Boxed.put (h : Boxed w0 w p q s s') (b : Bool) (A : Option Addr) (l c : Nat) :
    Boxed w0 ((w.setCell ⟨w0.heap.size + 1 + 1, 0, none⟩ (.bool b)).setCell ⟨w0.heap.size + 1 + 1, 1, none⟩ (.slice A l c)) p q s s' := by
  have far : ∀ (k : Nat) (i : Nat), k < w0.heap.size + 2 → ((w.setCell ⟨w0.heap.size + 1 + 1, 0, none⟩ (.bool b)).setCell ⟨w0.heap.size + 1 + 1, 1, none⟩ (.slice A l c)).cell? ⟨k, i, none⟩ = w.cell? ⟨k, i, none⟩ := by
    intro k i hk
    rw [World.cell?_setCell_other _ _ _ _ (by intro e; injection e with e1 _; omega), World.cell?_setCell_other _ _ _ _ (by intro e; injection e with e1 _; omega)]
  refine ⟨(far _ _ (by omega)).trans h.a0, (far _ _ (by omega)).trans h.a1, (far _ _ (by omega)).trans h.b0, (far _ _ (by omega)).trans h.b1, ?_, by simpa [World.setCell] using h.size, (h.below.setCell (by simp; omega) _).setCell (by simp; omega) _⟩
  obtain ⟨b', A', l', c', e⟩ := h.r
  exact ⟨b, A, l, c, by simp [World.setCell, Array.getElem?_modify, e]⟩
theorem Boxed.put0 (h : Boxed w0 w p q s s') (b : Bool) (A : Option Addr) (l c : Nat) :
    ((w.setCell ⟨w0.heap.size + 1 + 1, 0, none⟩ (.bool b)).setCell ⟨w0.heap.size + 1 + 1, 1, none⟩ (.slice A l c)).cell? ⟨w0.heap.size + 1 + 1, 0, none⟩ = some (.bool b) := by
  obtain ⟨b', A', l', c', e⟩ := h.r
  simp [World.cell?, World.setCell, Array.getElem?_modify, e]
theorem Boxed.put1 (h : Boxed w0 w p q s s') (b : Bool) (A : Option Addr) (l c : Nat) :
    ((w.setCell ⟨w0.heap.size + 1 + 1, 0, none⟩ (.bool b)).setCell ⟨w0.heap.size + 1 + 1, 1, none⟩ (.slice A l c)).cell? ⟨w0.heap.size + 1 + 1, 1, none⟩ = some (.slice A l c) := by
  obtain ⟨b', A', l', c', e⟩ := h.r
  simp [World.cell?, World.setCell, Array.getElem?_modify, e]
/-- Limbs do not lie where the result lies. -/
theorem Boxed.nat (h : Boxed w0 w p q s s') {v : Value} {n : Nat} (hv : IsNat w v n) (b : Bool) (A : Option Addr) (l c : Nat) :
    IsNat ((w.setCell ⟨w0.heap.size + 1 + 1, 0, none⟩ (.bool b)).setCell ⟨w0.heap.size + 1 + 1, 1, none⟩ (.slice A l c)) v n := by
  obtain ⟨A1, l1, c1, e, ⟨hn, hl⟩, r⟩ := hv
  refine ⟨A1, l1, c1, e, ⟨hn, fun h0 => ?_⟩, r⟩
  obtain ⟨g, off, e2, hg, hc⟩ := hl h0
  obtain ⟨b', A', l', c', e3⟩ := h.r
  have hne : g ≠ w0.heap.size + 1 + 1 := by
    intro e4
    subst e4
    have h5 := hc 0 h0
    simp only [World.cell?, e3] at h5
    have : ∀ (k : Nat) (x : Int), ([Value.bool b', .slice A' l' c'] : List Value)[k]? ≠ some (Value.int .u32 x) := by
      intro k x
      match k with
      | 0 => simp
      | 1 => simp
      | k + 2 => simp
    simp at h5
    exact this _ _ h5
  refine ⟨g, off, e2, by simpa [World.setCell] using hg, fun i hi => ?_⟩
  rw [World.cell?_setCell_other _ _ _ _ (by intro e; injection e with e1 _; exact hne e1.symm), World.cell?_setCell_other _ _ _ _ (by intro e; injection e with e1 _; exact hne e1.symm)]
  exact hc i hi
end

set_option maxHeartbeats 800000 in
theorem plus_same {w : World} {sa sb : Value} {x y k : Nat} (neg : Bool) (ha : IsNat w sa x) (hb : IsNat w sb y) (hx : x < M.B ^ k) (hy : y < M.B ^ k) (hk : k ≤ 30000) :
    Calls Tryz.prog 36 #[.agg #[.bool neg, sa], .agg #[.bool neg, sb]] w fun e w' => ∃ v, e = .returned (.agg #[.bool (neg && decide (0 < x + y)), v]) ∧ IsNat w' v (x + y) ∧ Below w.heap.size w w' := by
  have hn : (neg == neg) = true := by simp
  have H := Lib.hid (And.intro ha hb)
  obtain ⟨A, l, c, rfl⟩ := ha.shape
  obtain ⟨A', l', c', rfl⟩ := hb.shape
  clear ha hb
  go_enter Tryz.func36, Tryz.ntmps36
  go_wp2_with fail
  change Code.wp _ _ _ _ (box3 w neg neg (.slice A l c) (.slice A' l' c'))
  have hB := box3_boxed w neg neg (.slice A l c) (.slice A' l' c')
  generalize box3 w neg neg (.slice A l c) (.slice A' l' c') = W at *
  have hD := hB.drew
  have HX := Lib.hid (And.intro (IsNat.below H.out.1 hD.below (Nat.le_refl _)) (IsNat.below H.out.2 hD.below (Nat.le_refl _)))
  go_region_held3 (fun w' => w'.cell? ⟨w.heap.size, 0, none⟩ = some (.bool neg) ∧ w'.cell? ⟨w.heap.size, 1, none⟩ = some (.slice A l c) ∧ w'.cell? ⟨w.heap.size + 1, 0, none⟩ = some (.bool neg) ∧ w'.cell? ⟨w.heap.size + 1, 1, none⟩ = some (.slice A' l' c') ∧ Boxed w w' neg neg (.slice A l c) (.slice A' l' c'))
    (first | exact ⟨q1.a0, q1.a1, q1.b0, q1.b1, q1⟩ | exact ⟨q2.a0, q2.a1, q2.b0, q2.b1, q2⟩ | exact ⟨q3.a0, q3.a1, q3.b0, q3.b1, q3⟩ | exact ⟨hB.a0, hB.a1, hB.b0, hB.b1, hD⟩)
    (first
      | (go_at_call 64; go_split_ands; refine (plus_nat (k := k) HX.out.1 HX.out.2 hx hy hk).mono ?_; rintro e w1 ⟨v, rfl, hv, hb1⟩; obtain ⟨A1, l1, d1, rfl⟩ := hv.shape; have q1 : Boxed w w1 neg neg (.slice A l c) (.slice A' l' c') := Boxed.next hD hb1 (Nat.le_refl _))
      | (go_at_call 63; go_split_ands; refine (signed_any neg hv).mono ?_; rintro e w2 ⟨rfl, hb2⟩; have q2 : Boxed w w2 neg neg (.slice A l c) (.slice A' l' c') := Boxed.next q1 hb2 (Nat.le_refl _); obtain ⟨v0, c0⟩ := q2.r0; obtain ⟨v1, c1⟩ := q2.r1; have f0 := q2.f0; have f1 := q2.f1; have q3 := q2.put (neg && decide (0 < x + y)) A1 l1 d1; have hv3 := q2.nat (hv.below hb2 (Nat.le_refl _)) (neg && decide (0 < x + y)) A1 l1 d1))
  go_wp2
  have z0 := q2.put0 (neg && decide (0 < x + y)) A1 l1 d1
  have z1 := q2.put1 (neg && decide (0 < x + y)) A1 l1 d1
  generalize ((w2.setCell ⟨w.heap.size + 1 + 1, 0, none⟩ (.bool (neg && decide (0 < x + y)))).setCell ⟨w.heap.size + 1 + 1, 1, none⟩ (.slice A1 l1 d1)) = W3 at *
  exact bodyPost_ret (v := .agg #[.bool (neg && decide (0 < x + y)), .slice A1 l1 d1]) (by simp [results, Tryz.results36, go_sem, z0, z1]) rfl ⟨_, rfl, hv3, q3.below⟩

theorem cmp_lt {x y : Nat} (h : x < y) : cmpI (x : Int) y < 0 := by unfold cmpI; rw [if_pos (by omega)]; omega
set_option maxHeartbeats 800000 in
theorem plus_lt {w : World} {sa sb : Value} {x y k : Nat} (neg : Bool) (ha : IsNat w sa x) (hb : IsNat w sb y) (hx : x < M.B ^ k) (hy : y < M.B ^ k) (hk : k ≤ 30000) (hxy : x < y) :
    Calls Tryz.prog 36 #[.agg #[.bool neg, sa], .agg #[.bool !neg, sb]] w fun e w' => ∃ v, e = .returned (.agg #[.bool (!neg && decide (0 < y - x)), v]) ∧ IsNat w' v (y - x) ∧ Below w.heap.size w w' := by
  have hn : (neg == !neg) = false := by cases neg <;> rfl
  have H := Lib.hid (And.intro ha hb)
  have hcm := cmp_lt hxy
  have HXY := Lib.hid hxy
  obtain ⟨A, l, c, rfl⟩ := ha.shape
  obtain ⟨A', l', c', rfl⟩ := hb.shape
  clear ha hb hxy
  obtain ⟨m, hm⟩ : ∃ m, m = !neg := ⟨_, rfl⟩
  rw [← hm] at hn ⊢
  have HM := Lib.hid hm
  clear hm
  go_enter Tryz.func36, Tryz.ntmps36
  go_wp2_with fail
  change Calls _ _ _ (box3 w neg m (.slice A l c) (.slice A' l' c')) _
  have hB0 := box3_boxed w neg m (.slice A l c) (.slice A' l' c')
  generalize box3 w neg m (.slice A l c) (.slice A' l' c') = W0 at *
  refine (compare_nat (k := k) (IsNat.below H.out.1 hB0.below (Nat.le_refl _)) (IsNat.below H.out.2 hB0.below (Nat.le_refl _)) hx hy hk).mono ?_
  rintro e W ⟨rfl, hdr⟩
  have hB := hB0.next (hdr.below W0.heap.size) (Nat.le_refl _)
  have z_a0 := hB.a0
  have z_a1 := hB.a1
  have z_b0 := hB.b0
  have z_b1 := hB.b1
  clear hB0 hdr
  go_wp2_with fail
  have hD := hB.drew
  have HX := Lib.hid (And.intro (IsNat.below H.out.1 hD.below (Nat.le_refl _)) (IsNat.below H.out.2 hD.below (Nat.le_refl _)))
  go_region_held3 (fun w' => w'.cell? ⟨w.heap.size, 0, none⟩ = some (.bool neg) ∧ w'.cell? ⟨w.heap.size, 1, none⟩ = some (.slice A l c) ∧ w'.cell? ⟨w.heap.size + 1, 0, none⟩ = some (.bool m) ∧ w'.cell? ⟨w.heap.size + 1, 1, none⟩ = some (.slice A' l' c') ∧ Boxed w w' neg m (.slice A l c) (.slice A' l' c'))
    (first | exact ⟨q1.a0, q1.a1, q1.b0, q1.b1, q1⟩ | exact ⟨q2.a0, q2.a1, q2.b0, q2.b1, q2⟩ | exact ⟨q3.a0, q3.a1, q3.b0, q3.b1, q3⟩ | exact ⟨hB.a0, hB.a1, hB.b0, hB.b1, hD⟩)
    (first
      | (go_at_call 66; go_split_ands; refine (minus_nat (k := k) HX.out.2 HX.out.1 hy (Nat.le_of_lt HXY.out) hk).mono ?_; rintro e w1 ⟨v, rfl, hv, hb1⟩; obtain ⟨A1, l1, d1, rfl⟩ := hv.shape; have q1 : Boxed w w1 neg m (.slice A l c) (.slice A' l' c') := Boxed.next hD hb1 (Nat.le_refl _))
      | (go_at_call 63; go_split_ands; refine (signed_any m hv).mono ?_; rintro e w2 ⟨rfl, hb2⟩; have q2 : Boxed w w2 neg m (.slice A l c) (.slice A' l' c') := Boxed.next q1 hb2 (Nat.le_refl _); obtain ⟨v0, c0⟩ := q2.r0; obtain ⟨v1, c1⟩ := q2.r1; have f0 := q2.f0; have f1 := q2.f1; have q3 := q2.put (m && decide (0 < y - x)) A1 l1 d1; have hv3 := q2.nat (hv.below hb2 (Nat.le_refl _)) (m && decide (0 < y - x)) A1 l1 d1))
  go_wp2
  have z0 := q2.put0 (m && decide (0 < y - x)) A1 l1 d1
  have z1 := q2.put1 (m && decide (0 < y - x)) A1 l1 d1
  generalize ((w2.setCell ⟨w.heap.size + 1 + 1, 0, none⟩ (.bool (m && decide (0 < y - x)))).setCell ⟨w.heap.size + 1 + 1, 1, none⟩ (.slice A1 l1 d1)) = W3 at *
  exact bodyPost_ret (v := .agg #[.bool (m && decide (0 < y - x)), .slice A1 l1 d1]) (by simp [results, Tryz.results36, go_sem, z0, z1]) rfl ⟨_, by rw [HM.out], hv3, q3.below⟩

theorem cmp_ge {x y : Nat} (h : y ≤ x) : ¬ cmpI (x : Int) y < 0 := by unfold cmpI; rw [if_neg (by omega)]; split <;> omega
set_option maxHeartbeats 800000 in
theorem plus_ge {w : World} {sa sb : Value} {x y k : Nat} (neg : Bool) (ha : IsNat w sa x) (hb : IsNat w sb y) (hx : x < M.B ^ k) (hy : y < M.B ^ k) (hk : k ≤ 30000) (hxy : y ≤ x) :
    Calls Tryz.prog 36 #[.agg #[.bool neg, sa], .agg #[.bool !neg, sb]] w fun e w' => ∃ v, e = .returned (.agg #[.bool (neg && decide (0 < x - y)), v]) ∧ IsNat w' v (x - y) ∧ Below w.heap.size w w' := by
  have hn : (neg == !neg) = false := by cases neg <;> rfl
  have H := Lib.hid (And.intro ha hb)
  have hcm := cmp_ge hxy
  have HXY := Lib.hid hxy
  obtain ⟨A, l, c, rfl⟩ := ha.shape
  obtain ⟨A', l', c', rfl⟩ := hb.shape
  clear ha hb hxy
  obtain ⟨m, hm⟩ : ∃ m, m = !neg := ⟨_, rfl⟩
  rw [← hm] at hn ⊢
  have HM := Lib.hid hm
  clear hm
  go_enter Tryz.func36, Tryz.ntmps36
  go_wp2_with fail
  change Calls _ _ _ (box3 w neg m (.slice A l c) (.slice A' l' c')) _
  have hB0 := box3_boxed w neg m (.slice A l c) (.slice A' l' c')
  generalize box3 w neg m (.slice A l c) (.slice A' l' c') = W0 at *
  refine (compare_nat (k := k) (IsNat.below H.out.1 hB0.below (Nat.le_refl _)) (IsNat.below H.out.2 hB0.below (Nat.le_refl _)) hx hy hk).mono ?_
  rintro e W ⟨rfl, hdr⟩
  have hB := hB0.next (hdr.below W0.heap.size) (Nat.le_refl _)
  have z_a0 := hB.a0
  have z_a1 := hB.a1
  have z_b0 := hB.b0
  have z_b1 := hB.b1
  clear hB0 hdr
  go_wp2_with fail
  have hD := hB.drew
  have HX := Lib.hid (And.intro (IsNat.below H.out.1 hD.below (Nat.le_refl _)) (IsNat.below H.out.2 hD.below (Nat.le_refl _)))
  go_region_held3 (fun w' => w'.cell? ⟨w.heap.size, 0, none⟩ = some (.bool neg) ∧ w'.cell? ⟨w.heap.size, 1, none⟩ = some (.slice A l c) ∧ w'.cell? ⟨w.heap.size + 1, 0, none⟩ = some (.bool m) ∧ w'.cell? ⟨w.heap.size + 1, 1, none⟩ = some (.slice A' l' c') ∧ Boxed w w' neg m (.slice A l c) (.slice A' l' c'))
    (first | exact ⟨q1.a0, q1.a1, q1.b0, q1.b1, q1⟩ | exact ⟨q2.a0, q2.a1, q2.b0, q2.b1, q2⟩ | exact ⟨q3.a0, q3.a1, q3.b0, q3.b1, q3⟩ | exact ⟨hB.a0, hB.a1, hB.b0, hB.b1, hD⟩)
    (first
      | (go_at_call 66; go_split_ands; refine (minus_nat (k := k) HX.out.1 HX.out.2 hx HXY.out hk).mono ?_; rintro e w1 ⟨v, rfl, hv, hb1⟩; obtain ⟨A1, l1, d1, rfl⟩ := hv.shape; have q1 : Boxed w w1 neg m (.slice A l c) (.slice A' l' c') := Boxed.next hD hb1 (Nat.le_refl _))
      | (go_at_call 63; go_split_ands; refine (signed_any neg hv).mono ?_; rintro e w2 ⟨rfl, hb2⟩; have q2 : Boxed w w2 neg m (.slice A l c) (.slice A' l' c') := Boxed.next q1 hb2 (Nat.le_refl _); obtain ⟨v0, c0⟩ := q2.r0; obtain ⟨v1, c1⟩ := q2.r1; have f0 := q2.f0; have f1 := q2.f1; have q3 := q2.put (neg && decide (0 < x - y)) A1 l1 d1; have hv3 := q2.nat (hv.below hb2 (Nat.le_refl _)) (neg && decide (0 < x - y)) A1 l1 d1))
  go_wp2
  have z0 := q2.put0 (neg && decide (0 < x - y)) A1 l1 d1
  have z1 := q2.put1 (neg && decide (0 < x - y)) A1 l1 d1
  generalize ((w2.setCell ⟨w.heap.size + 1 + 1, 0, none⟩ (.bool (neg && decide (0 < x - y)))).setCell ⟨w.heap.size + 1 + 1, 1, none⟩ (.slice A1 l1 d1)) = W3 at *
  exact bodyPost_ret (v := .agg #[.bool (neg && decide (0 < x - y)), .slice A1 l1 d1]) (by simp [results, Tryz.results36, go_sem, z0, z1]) rfl ⟨_, rfl, hv3, q3.below⟩
end Go.Proofs.YtafknlnlejopeaaGreatDoor
