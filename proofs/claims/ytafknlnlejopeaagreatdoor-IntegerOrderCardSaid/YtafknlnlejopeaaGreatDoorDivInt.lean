/- Divide of integers. -/
import Derived.Test.YtafknlnlejopeaaGreatDoorDiv
namespace Go.Proofs.YtafknlnlejopeaaGreatDoor
open Go Go.RowKit

def box4 (w : World) (p q : Bool) (s s' : Value) : World := (box3 w p q s s').alloc (.cells #[.bool false, .slice none 0 0] 58)
theorem box4_boxed (w : World) (p q : Bool) (s s' : Value) : Boxed w (box4 w p q s s') p q s s' ∧ Res (w.heap.size + 1 + 1 + 1) (box4 w p q s s') := by
  have h := box3_boxed w p q s s'
  have hs : (box3 w p q s s').heap.size = w.heap.size + 1 + 1 + 1 := by simp [box3]
  refine ⟨h.next ((Below.refl (box3 w p q s s').heap.size _).alloc (Nat.le_refl _) _) (Nat.le_refl _), ?_⟩
  rw [← hs]
  exact Res.new _
/-- The first result's place, as 'Res' says it. -/
theorem Boxed.res {w0 w : World} {p q : Bool} {s s' : Value} (h : Boxed w0 w p q s s') : Res (w0.heap.size + 1 + 1) w := ⟨h.r⟩
theorem Res.far {g g' : Nat} {w : World} (h : Res g w) (hne : g ≠ g') (b : Bool) (A : Option Addr) (l c : Nat) : Res g ((w.setCell ⟨g', 0, none⟩ (.bool b)).setCell ⟨g', 1, none⟩ (.slice A l c)) := by
  obtain ⟨b', A', l', c', e⟩ := h.r
  refine ⟨⟨b', A', l', c', ?_⟩⟩
  rw [Below.heap_setCell _ _ _ _ (by simpa using hne), Below.heap_setCell _ _ _ _ (by simpa using hne)]
  exact e


set_option maxHeartbeats 1600000 in
set_option maxRecDepth 100000 in
theorem divInt_pos {w : World} {sa sb : Value} {x : Nat} {q : Int} {m : Bool} {k : Nat} (ha : IsNat w sa x) (hb : IsInt w (.agg #[.bool m, sb]) q) (hs' : IsNat w sb q.natAbs) (hq0 : q ≠ 0) (_hx : x < M.B ^ k) (_hy : q.natAbs < M.B ^ k) (_hk : k ≤ 29000)
    (hD : ∀ (w : World) (a b : Value), IsNat w a x → IsNat w b q.natAbs → Calls Tryz.prog 81 #[a, b] w (DivPost w x q.natAbs))  :
    Calls Tryz.prog 57 #[.agg #[.bool false, sa], .agg #[.bool m, sb]] w fun e w' => ∃ u v, e = .returned (.tuple #[.agg #[.bool (m && decide (0 < x / q.natAbs)), u], .agg #[.bool (false && decide (0 < x % q.natAbs)), v]]) ∧ IsNat w' u (x / q.natAbs) ∧ IsNat w' v (x % q.natAbs) ∧ Below w.heap.size w w' := by
  obtain ⟨A, l, c, rfl⟩ := ha.shape
  obtain ⟨A', l', c', rfl⟩ := hs'.shape
  have hsg : ((sgn q : Int) == 0) = false := by
    unfold sgn
    rw [beq_eq_false_iff_ne]
    split
    · omega
    · split <;> omega
  obtain ⟨rb, hrb⟩ : ∃ rb, rb = (m && decide (0 < x / q.natAbs)) := ⟨_, rfl⟩
  obtain ⟨rc, hrc⟩ : ∃ rc, rc = (false && decide (0 < x % q.natAbs)) := ⟨_, rfl⟩
  rw [← hrb, ← hrc]
  have H := Lib.hid (And.intro ha (And.intro hs' (And.intro hD (And.intro hb (And.intro hrb hrc)))))
  have HQ := Lib.hid hq0
  clear ha hb hs' hD hrb hrc 
  go_enter Tryz.func57, Tryz.ntmps57
  go_wp2_with fail
  change Calls _ _ _ (box4 w false m (.slice A l c) (.slice A' l' c')) _
  have hB0 := box4_boxed w false m (.slice A l c) (.slice A' l' c')
  generalize box4 w false m (.slice A l c) (.slice A' l' c') = W0 at *
  refine (sign_any (H.out.2.2.2.1.below hB0.1.below (Nat.le_refl _))).mono ?_
  rintro e W1 ⟨rfl, hb1⟩
  have hB1 := hB0.1.next hb1 (Nat.le_refl _)
  have hR1 := hB0.2.next hb1 hB0.2.lt
  have z_a0 := hB1.a0
  have z_a1 := hB1.a1
  have z_b0 := hB1.b0
  have z_b1 := hB1.b1
  have H1 := Lib.hid (And.intro hB1 hR1)
  clear hB0 hb1 hB1 hR1
  go_wp2_with fail
  refine (H.out.2.2.1 _ _ _ (H.out.1.below H1.out.1.below (Nat.le_refl _)) (H.out.2.1.below H1.out.1.below (Nat.le_refl _))).mono ?_
  rintro e W2 ⟨u, v, rfl, hu, hv, hb2⟩
  obtain ⟨A1, l1, d1, rfl⟩ := hu.shape
  have hv' := id hv
  obtain ⟨A2, l2, d2, rfl, hl2, hm2, _, _⟩ := hv'
  have hz2 := len_zero hm2 hl2.1
  have hB2 := H1.out.1.next hb2 (Nat.le_refl _)
  have hR2 := H1.out.2.next hb2 H1.out.2.lt
  have z_a0 := hB2.a0
  have z_a1 := hB2.a1
  have z_b0 := hB2.b0
  have z_b1 := hB2.b1

  have H2 := Lib.hid (And.intro hB2 (And.intro hR2 (And.intro hu hv)))
  clear hb2 hu hv hl2 hm2 hz2 hB2 hR2
  go_wp2_with fail

  refine (signed_b _ H.out.2.2.2.2.1 H2.out.2.2.1).mono ?_
  rintro e W3 ⟨rfl, hb3⟩
  have H3 := Lib.hid (And.intro (H2.out.1.next hb3 (Nat.le_refl _)) (And.intro (H2.out.2.1.next hb3 H2.out.2.1.lt) (And.intro (H2.out.2.2.1.below hb3 (Nat.le_refl _)) (H2.out.2.2.2.below hb3 (Nat.le_refl _)))))
  clear hb3
  go_wp2_with fail
  refine (signed_b false H.out.2.2.2.2.2 H3.out.2.2.2).mono ?_
  rintro e W4 ⟨rfl, hb4⟩
  have hB4 := H3.out.1.next hb4 (Nat.le_refl _)
  have hR4 := H3.out.2.1.next hb4 H3.out.2.1.lt
  obtain ⟨v0, c0⟩ := hB4.res.c0
  obtain ⟨v1, c1⟩ := hB4.res.c1
  have f0 := hB4.res.f0
  have f1 := hB4.res.f1
  have hR5 := hR4.far (g' := w.heap.size + 1 + 1) (by omega) rb A1 l1 d1
  obtain ⟨v2, c2⟩ := hR5.c0
  obtain ⟨v3, c3⟩ := hR5.c1
  have f2 := hR5.f0
  have f3 := hR5.f1
  have hu5 := hB4.res.nat (H3.out.2.2.1.below hb4 (Nat.le_refl _)) rb A1 l1 d1
  have hv5 := hB4.res.nat (H3.out.2.2.2.below hb4 (Nat.le_refl _)) rb A1 l1 d1
  have hu6 := hR5.nat hu5 rc A2 l2 d2
  have hv6 := hR5.nat hv5 rc A2 l2 d2
  have hb6 := ((((hB4.below).setCell (p := ⟨w.heap.size + 1 + 1, 0, none⟩) (by simp; omega) (.bool rb)).setCell (p := ⟨w.heap.size + 1 + 1, 1, none⟩) (by simp; omega) (.slice A1 l1 d1)).setCell (p := ⟨w.heap.size + 1 + 1 + 1, 0, none⟩) (by simp; omega) (.bool rc)).setCell (p := ⟨w.heap.size + 1 + 1 + 1, 1, none⟩) (by simp; omega) (.slice A2 l2 d2)
  have z2 := hR5.put0 rc A2 l2 d2
  have z3 := hR5.put1 rc A2 l2 d2
  have hB6 : Res (w.heap.size + 1 + 1) ((W4.setCell ⟨w.heap.size + 1 + 1, 0, none⟩ (.bool rb)).setCell ⟨w.heap.size + 1 + 1, 1, none⟩ (.slice A1 l1 d1)) := hB4.res.put rb A1 l1 d1
  have z0 := hB4.res.put0 rb A1 l1 d1
  have z1 := hB4.res.put1 rb A1 l1 d1
  rw [← World.cell?_setCell_other _ ⟨w.heap.size + 1 + 1 + 1, 0, none⟩ _ (.bool rc) (by intro e; injection e with e1 _; omega), ← World.cell?_setCell_other _ ⟨w.heap.size + 1 + 1 + 1, 1, none⟩ _ (.slice A2 l2 d2) (by intro e; injection e with e1 _; omega)] at z0 z1
  have HF := Lib.hid (And.intro hu6 (And.intro hv6 hb6))
  have Z := Lib.hid (And.intro z0 (And.intro z1 (And.intro z2 z3)))
  clear hu5 hv5 hu6 hv6 hb6 z0 z1 z2 z3 hB6 hB4 hR4 hR5 hb4
  go_wp2
  have z0 := Z.out.1
  have z1 := Z.out.2.1
  have z2 := Z.out.2.2.1
  have z3 := Z.out.2.2.2
  have hf := HF.out
  clear Z HF
  generalize ((((W4.setCell ⟨w.heap.size + 1 + 1, 0, none⟩ (.bool rb)).setCell ⟨w.heap.size + 1 + 1, 1, none⟩ (.slice A1 l1 d1)).setCell ⟨w.heap.size + 1 + 1 + 1, 0, none⟩ (.bool rc)).setCell ⟨w.heap.size + 1 + 1 + 1, 1, none⟩ (.slice A2 l2 d2)) = W5 at *
  exact bodyPost_ret (v := .tuple #[.agg #[.bool rb, .slice A1 l1 d1], .agg #[.bool rc, .slice A2 l2 d2]]) (by simp [results, Tryz.results57, go_sem, z0, z1, z2, z3]) rfl ⟨_, _, rfl, hf.1, hf.2.1, hf.2.2⟩

set_option maxHeartbeats 1600000 in
set_option maxRecDepth 100000 in
theorem divInt_zero {w : World} {sa sb : Value} {x : Nat} {q : Int} {m : Bool} {k : Nat} (ha : IsNat w sa x) (hb : IsInt w (.agg #[.bool m, sb]) q) (hs' : IsNat w sb q.natAbs) (hq0 : q ≠ 0) (_hx : x < M.B ^ k) (_hy : q.natAbs < M.B ^ k) (_hk : k ≤ 29000)
    (hD : ∀ (w : World) (a b : Value), IsNat w a x → IsNat w b q.natAbs → Calls Tryz.prog 81 #[a, b] w (DivPost w x q.natAbs)) (hr : x % q.natAbs = 0) :
    Calls Tryz.prog 57 #[.agg #[.bool true, sa], .agg #[.bool m, sb]] w fun e w' => ∃ u v, e = .returned (.tuple #[.agg #[.bool ((!m) && decide (0 < x / q.natAbs)), u], .agg #[.bool (false && decide (0 < x % q.natAbs)), v]]) ∧ IsNat w' u (x / q.natAbs) ∧ IsNat w' v (x % q.natAbs) ∧ Below w.heap.size w w' := by
  obtain ⟨A, l, c, rfl⟩ := ha.shape
  obtain ⟨A', l', c', rfl⟩ := hs'.shape
  have hsg : ((sgn q : Int) == 0) = false := by
    unfold sgn
    rw [beq_eq_false_iff_ne]
    split
    · omega
    · split <;> omega
  obtain ⟨rb, hrb⟩ : ∃ rb, rb = ((!m) && decide (0 < x / q.natAbs)) := ⟨_, rfl⟩
  obtain ⟨rc, hrc⟩ : ∃ rc, rc = (false && decide (0 < x % q.natAbs)) := ⟨_, rfl⟩
  rw [← hrb, ← hrc]
  have H := Lib.hid (And.intro ha (And.intro hs' (And.intro hD (And.intro hb (And.intro hrb hrc)))))
  have HQ := Lib.hid hr
  clear ha hb hs' hD hrb hrc hr
  go_enter Tryz.func57, Tryz.ntmps57
  go_wp2_with fail
  change Calls _ _ _ (box4 w true m (.slice A l c) (.slice A' l' c')) _
  have hB0 := box4_boxed w true m (.slice A l c) (.slice A' l' c')
  generalize box4 w true m (.slice A l c) (.slice A' l' c') = W0 at *
  refine (sign_any (H.out.2.2.2.1.below hB0.1.below (Nat.le_refl _))).mono ?_
  rintro e W1 ⟨rfl, hb1⟩
  have hB1 := hB0.1.next hb1 (Nat.le_refl _)
  have hR1 := hB0.2.next hb1 hB0.2.lt
  have z_a0 := hB1.a0
  have z_a1 := hB1.a1
  have z_b0 := hB1.b0
  have z_b1 := hB1.b1
  have H1 := Lib.hid (And.intro hB1 hR1)
  clear hB0 hb1 hB1 hR1
  go_wp2_with fail
  refine (H.out.2.2.1 _ _ _ (H.out.1.below H1.out.1.below (Nat.le_refl _)) (H.out.2.1.below H1.out.1.below (Nat.le_refl _))).mono ?_
  rintro e W2 ⟨u, v, rfl, hu, hv, hb2⟩
  obtain ⟨A1, l1, d1, rfl⟩ := hu.shape
  have hv' := id hv
  obtain ⟨A2, l2, d2, rfl, hl2, hm2, _, _⟩ := hv'
  have hz2 := len_zero hm2 hl2.1
  have hB2 := H1.out.1.next hb2 (Nat.le_refl _)
  have hR2 := H1.out.2.next hb2 H1.out.2.lt
  have z_a0 := hB2.a0
  have z_a1 := hB2.a1
  have z_b0 := hB2.b0
  have z_b1 := hB2.b1
  obtain rfl : l2 = 0 := hz2.2 HQ.out
  have H2 := Lib.hid (And.intro hB2 (And.intro hR2 (And.intro hu hv)))
  clear hb2 hu hv hl2 hm2 hz2 hB2 hR2
  go_wp2_with fail

  refine (signed_b _ H.out.2.2.2.2.1 H2.out.2.2.1).mono ?_
  rintro e W3 ⟨rfl, hb3⟩
  have H3 := Lib.hid (And.intro (H2.out.1.next hb3 (Nat.le_refl _)) (And.intro (H2.out.2.1.next hb3 H2.out.2.1.lt) (And.intro (H2.out.2.2.1.below hb3 (Nat.le_refl _)) (H2.out.2.2.2.below hb3 (Nat.le_refl _)))))
  clear hb3
  go_wp2_with fail
  refine (signed_b false H.out.2.2.2.2.2 H3.out.2.2.2).mono ?_
  rintro e W4 ⟨rfl, hb4⟩
  have hB4 := H3.out.1.next hb4 (Nat.le_refl _)
  have hR4 := H3.out.2.1.next hb4 H3.out.2.1.lt
  obtain ⟨v0, c0⟩ := hB4.res.c0
  obtain ⟨v1, c1⟩ := hB4.res.c1
  have f0 := hB4.res.f0
  have f1 := hB4.res.f1
  have hR5 := hR4.far (g' := w.heap.size + 1 + 1) (by omega) rb A1 l1 d1
  obtain ⟨v2, c2⟩ := hR5.c0
  obtain ⟨v3, c3⟩ := hR5.c1
  have f2 := hR5.f0
  have f3 := hR5.f1
  have hu5 := hB4.res.nat (H3.out.2.2.1.below hb4 (Nat.le_refl _)) rb A1 l1 d1
  have hv5 := hB4.res.nat (H3.out.2.2.2.below hb4 (Nat.le_refl _)) rb A1 l1 d1
  have hu6 := hR5.nat hu5 rc A2 0 d2
  have hv6 := hR5.nat hv5 rc A2 0 d2
  have hb6 := ((((hB4.below).setCell (p := ⟨w.heap.size + 1 + 1, 0, none⟩) (by simp; omega) (.bool rb)).setCell (p := ⟨w.heap.size + 1 + 1, 1, none⟩) (by simp; omega) (.slice A1 l1 d1)).setCell (p := ⟨w.heap.size + 1 + 1 + 1, 0, none⟩) (by simp; omega) (.bool rc)).setCell (p := ⟨w.heap.size + 1 + 1 + 1, 1, none⟩) (by simp; omega) (.slice A2 0 d2)
  have z2 := hR5.put0 rc A2 0 d2
  have z3 := hR5.put1 rc A2 0 d2
  have hB6 : Res (w.heap.size + 1 + 1) ((W4.setCell ⟨w.heap.size + 1 + 1, 0, none⟩ (.bool rb)).setCell ⟨w.heap.size + 1 + 1, 1, none⟩ (.slice A1 l1 d1)) := hB4.res.put rb A1 l1 d1
  have z0 := hB4.res.put0 rb A1 l1 d1
  have z1 := hB4.res.put1 rb A1 l1 d1
  rw [← World.cell?_setCell_other _ ⟨w.heap.size + 1 + 1 + 1, 0, none⟩ _ (.bool rc) (by intro e; injection e with e1 _; omega), ← World.cell?_setCell_other _ ⟨w.heap.size + 1 + 1 + 1, 1, none⟩ _ (.slice A2 0 d2) (by intro e; injection e with e1 _; omega)] at z0 z1
  have HF := Lib.hid (And.intro hu6 (And.intro hv6 hb6))
  have Z := Lib.hid (And.intro z0 (And.intro z1 (And.intro z2 z3)))
  clear hu5 hv5 hu6 hv6 hb6 z0 z1 z2 z3 hB6 hB4 hR4 hR5 hb4
  go_wp2
  have z0 := Z.out.1
  have z1 := Z.out.2.1
  have z2 := Z.out.2.2.1
  have z3 := Z.out.2.2.2
  have hf := HF.out
  clear Z HF
  generalize ((((W4.setCell ⟨w.heap.size + 1 + 1, 0, none⟩ (.bool rb)).setCell ⟨w.heap.size + 1 + 1, 1, none⟩ (.slice A1 l1 d1)).setCell ⟨w.heap.size + 1 + 1 + 1, 0, none⟩ (.bool rc)).setCell ⟨w.heap.size + 1 + 1 + 1, 1, none⟩ (.slice A2 0 d2)) = W5 at *
  exact bodyPost_ret (v := .tuple #[.agg #[.bool rb, .slice A1 l1 d1], .agg #[.bool rc, .slice A2 0 d2]]) (by simp [results, Tryz.results57, go_sem, z0, z1, z2, z3]) rfl ⟨_, _, rfl, hf.1, hf.2.1, hf.2.2⟩
end Go.Proofs.YtafknlnlejopeaaGreatDoor
