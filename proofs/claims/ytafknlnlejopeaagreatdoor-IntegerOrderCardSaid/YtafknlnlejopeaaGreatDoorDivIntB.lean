/- Divide of integers: a negative number with a rest. -/
import Derived.Test.YtafknlnlejopeaaGreatDoorDivInt
namespace Go.Proofs.YtafknlnlejopeaaGreatDoor
open Go Go.RowKit

theorem one_new (w : World) : IsNat (w.alloc (.cells #[.int .u32 1] 97)) (.slice (some ⟨w.heap.size, 0, none⟩) 1 1) 1 := by
  have hr : Row (w.alloc (.cells #[.int .u32 1] 97)) w.heap.size 1 1 := by
    refine ⟨_, heap_alloc_new w _, by simp, by rw [Nat.pow_one]; exact M.B_one, fun j hj => ?_⟩
    match j, hj with
    | 0, _ =>
      have : M.dg 1 0 = 1 := by unfold M.dg; rw [Nat.pow_zero, Nat.div_one, Nat.mod_eq_of_lt M.B_one]
      rw [this]; rfl
  exact ⟨_, 1, 1, rfl, hr.limbs, .inr (by simp), Nat.le_refl _, by omega⟩

set_option maxHeartbeats 1600000 in
set_option maxRecDepth 100000 in
theorem divInt_neg {w : World} {sa sb : Value} {x : Nat} {q : Int} {m : Bool} {k : Nat} (ha : IsNat w sa x) (hb : IsInt w (.agg #[.bool m, sb]) q) (hs' : IsNat w sb q.natAbs) (hq0 : q ≠ 0) (hx : x < M.B ^ k) (hy : q.natAbs < M.B ^ k) (hk : k ≤ 29000)
    (hD : ∀ (w : World) (a b : Value), IsNat w a x → IsNat w b q.natAbs → Calls Tryz.prog 81 #[a, b] w (DivPost w x q.natAbs)) (hr : 0 < x % q.natAbs) :
    Calls Tryz.prog 57 #[.agg #[.bool true, sa], .agg #[.bool m, sb]] w fun e w' => ∃ u v, e = .returned (.tuple #[.agg #[.bool ((!m) && decide (0 < x / q.natAbs + 1)), u], .agg #[.bool (false && decide (0 < q.natAbs - x % q.natAbs)), v]]) ∧ IsNat w' u (x / q.natAbs + 1) ∧ IsNat w' v (q.natAbs - x % q.natAbs) ∧ Below w.heap.size w w' := by
  obtain ⟨A, l, c, rfl⟩ := ha.shape
  obtain ⟨A', l', c', rfl⟩ := hs'.shape
  have hsg : ((sgn q : Int) == 0) = false := by
    unfold sgn
    rw [beq_eq_false_iff_ne]
    split
    · omega
    · split <;> omega
  obtain ⟨rb, hrb⟩ : ∃ rb, rb = ((!m) && decide (0 < x / q.natAbs + 1)) := ⟨_, rfl⟩
  obtain ⟨rc, hrc⟩ : ∃ rc, rc = (false && decide (0 < q.natAbs - x % q.natAbs)) := ⟨_, rfl⟩
  rw [← hrb, ← hrc]
  have H := Lib.hid (And.intro ha (And.intro hs' (And.intro hD (And.intro hb (And.intro hrb hrc)))))
  have HQ := Lib.hid hr
  clear ha hb hs' hD hrb hrc hr
  go_enter Tryz.func57, Tryz.ntmps57
  go_wp2_with fail
  change Calls _ _ _ (box4 w true m (.slice A l c) (.slice A' l' c')) _
  have hB0 := box4_boxed w true m (.slice A l c) (.slice A' l' c')
  generalize box4 w true m (.slice A l c) (.slice A' l' c') = W0 at *
  refine (sign_any (H.out.2.2.2.1.below hB0.1.below (Nat.le_refl _))).mono ?_
  rintro e W1 ⟨rfl, hb1⟩
  have hB1 := hB0.1.next hb1 (Nat.le_refl _)
  have hR1 := hB0.2.next hb1 hB0.2.lt
  have z_a0 := hB1.a0
  have z_a1 := hB1.a1
  have z_b0 := hB1.b0
  have z_b1 := hB1.b1
  have H1 := Lib.hid (And.intro hB1 hR1)
  clear hB0 hb1 hB1 hR1
  go_wp2_with fail
  refine (H.out.2.2.1 _ _ _ (H.out.1.below H1.out.1.below (Nat.le_refl _)) (H.out.2.1.below H1.out.1.below (Nat.le_refl _))).mono ?_
  rintro e W2 ⟨u, v, rfl, hu, hv, hb2⟩
  obtain ⟨A1, l1, d1, rfl⟩ := hu.shape
  have hv' := id hv
  obtain ⟨A2, l2, d2, rfl, hl2, hm2, _, _⟩ := hv'
  have hz2 := len_zero hm2 hl2.1
  have hB2 := H1.out.1.next hb2 (Nat.le_refl _)
  have hR2 := H1.out.2.next hb2 H1.out.2.lt
  have z_a0 := hB2.a0
  have z_a1 := hB2.a1
  have z_b0 := hB2.b0
  have z_b1 := hB2.b1
  have hl2p : 0 < l2 := by have := HQ.out; have h3 : ¬ l2 = 0 := fun e => by have := hz2.1 e; omega
                           omega
  have H2 := Lib.hid (And.intro hB2 (And.intro hR2 (And.intro hu hv)))
  clear hb2 hu hv hl2 hm2 hz2 hB2 hR2
  go_wp2_with fail

  have hD := H2.out.1.drew
  have hRD := H2.out.2.1.drew
  have hal : Below W2.drew.heap.size W2.drew (W2.drew.alloc (.cells #[.int .u32 1] 97)) := (Below.refl _ _).alloc (Nat.le_refl _) _
  have qa := hD.next hal (Nat.le_refl _)
  have ra := hRD.next hal hRD.lt
  have hu7 := (H2.out.2.2.1.drew).below hal (Nat.le_refl _)
  have hv7 := (H2.out.2.2.2.drew).below hal (Nat.le_refl _)
  have ho7 : IsNat (W2.drew.alloc (.cells #[.int .u32 1] 97)) (.slice (some ⟨W2.drew.heap.size, 0, none⟩) 1 1) 1 := one_new W2.drew
  have hb7 : IsNat (W2.drew.alloc (.cells #[.int .u32 1] 97)) (.slice A' l' c') q.natAbs := H.out.2.1.below qa.below (Nat.le_refl _)
  have HA7 := Lib.hid (And.intro qa (And.intro ra (And.intro hu7 (And.intro hv7 (And.intro ho7 hb7)))))
  clear ra hu7 hv7 ho7 hb7 hal hRD
  have hq1 : x / q.natAbs < M.B ^ (k + 1) := Nat.lt_of_le_of_lt (Nat.div_le_self _ _) (Nat.lt_of_lt_of_le hx (M.pow_mono (Nat.le_succ _)))
  have h11 : 1 < M.B ^ (k + 1) := Nat.lt_of_lt_of_le M.B_two (by have := M.pow_mono (show 1 ≤ k + 1 by omega); rwa [Nat.pow_one] at this)
  have HQ1 := Lib.hid (And.intro hq1 h11)
  clear hq1 h11
  go_region_held3 (fun w' => w'.cell? ⟨w.heap.size, 0, none⟩ = some (.bool true) ∧ w'.cell? ⟨w.heap.size, 1, none⟩ = some (.slice A l c) ∧ w'.cell? ⟨w.heap.size + 1, 0, none⟩ = some (.bool m) ∧ w'.cell? ⟨w.heap.size + 1, 1, none⟩ = some (.slice A' l' c') ∧ Boxed w w' true m (.slice A l c) (.slice A' l' c'))
    (first | exact ⟨q2.a0, q2.a1, q2.b0, q2.b1, q2⟩ | exact ⟨q1.a0, q1.a1, q1.b0, q1.b1, q1⟩ | exact ⟨qa.a0, qa.a1, qa.b0, qa.b1, qa⟩ | exact ⟨hD.a0, hD.a1, hD.b0, hD.b1, hD⟩)
    (first
      | (go_at_call 64; go_split_ands; refine (plus_nat (k := k + 1) HA7.out.2.2.1 HA7.out.2.2.2.2.1 HQ1.out.1 HQ1.out.2 (by omega)).mono ?_; rintro e w7 ⟨u', rfl, hu', hb7⟩; obtain ⟨A3, l3, d3, rfl⟩ := hu'.shape; have q1 : Boxed w w7 true m (.slice A l c) (.slice A' l' c') := HA7.out.1.next hb7 (Nat.le_refl _); have H7 := Lib.hid (And.intro (HA7.out.2.1.next hb7 HA7.out.2.1.lt) (And.intro hu' (And.intro (HA7.out.2.2.2.1.below hb7 (Nat.le_refl _)) (HA7.out.2.2.2.2.2.below hb7 (Nat.le_refl _))))))
      | (go_at_call 66; go_split_ands; refine (minus_nat (k := k) H7.out.2.2.2 H7.out.2.2.1 hy (by have := Nat.mod_lt x (show 0 < q.natAbs by omega); omega) (by omega)).mono ?_; rintro e w8 ⟨v', rfl, hv', hb8⟩; obtain ⟨A4, l4, d4, rfl⟩ := hv'.shape; have q2 : Boxed w w8 true m (.slice A l c) (.slice A' l' c') := q1.next hb8 (Nat.le_refl _); have H8 := Lib.hid (And.intro q2 (And.intro (H7.out.1.next hb8 H7.out.1.lt) (And.intro (H7.out.2.1.below hb8 (Nat.le_refl _)) hv')))))
  clear z_a0 z_a1 z_b0 z_b1
  have z_a0 := H8.out.1.a0
  have z_b0 := H8.out.1.b0
  go_wp2_with fail
  refine (signed_b _ H.out.2.2.2.2.1 H8.out.2.2.1).mono ?_
  rintro e W3 ⟨rfl, hb3⟩
  have H3 := Lib.hid (And.intro (H8.out.1.next hb3 (Nat.le_refl _)) (And.intro (H8.out.2.1.next hb3 H8.out.2.1.lt) (And.intro (H8.out.2.2.1.below hb3 (Nat.le_refl _)) (H8.out.2.2.2.below hb3 (Nat.le_refl _)))))
  clear hb3
  go_wp2_with fail
  refine (signed_b false H.out.2.2.2.2.2 H3.out.2.2.2).mono ?_
  rintro e W4 ⟨rfl, hb4⟩
  have hB4 := H3.out.1.next hb4 (Nat.le_refl _)
  have hR4 := H3.out.2.1.next hb4 H3.out.2.1.lt
  obtain ⟨v0, c0⟩ := hB4.res.c0
  obtain ⟨v1, c1⟩ := hB4.res.c1
  have f0 := hB4.res.f0
  have f1 := hB4.res.f1
  have hR5 := hR4.far (g' := w.heap.size + 1 + 1) (by omega) rb A3 l3 d3
  obtain ⟨v2, c2⟩ := hR5.c0
  obtain ⟨v3, c3⟩ := hR5.c1
  have f2 := hR5.f0
  have f3 := hR5.f1
  have hu5 := hB4.res.nat (H3.out.2.2.1.below hb4 (Nat.le_refl _)) rb A3 l3 d3
  have hv5 := hB4.res.nat (H3.out.2.2.2.below hb4 (Nat.le_refl _)) rb A3 l3 d3
  have hu6 := hR5.nat hu5 rc A4 l4 d4
  have hv6 := hR5.nat hv5 rc A4 l4 d4
  have hb6 := ((((hB4.below).setCell (p := ⟨w.heap.size + 1 + 1, 0, none⟩) (by simp; omega) (.bool rb)).setCell (p := ⟨w.heap.size + 1 + 1, 1, none⟩) (by simp; omega) (.slice A3 l3 d3)).setCell (p := ⟨w.heap.size + 1 + 1 + 1, 0, none⟩) (by simp; omega) (.bool rc)).setCell (p := ⟨w.heap.size + 1 + 1 + 1, 1, none⟩) (by simp; omega) (.slice A4 l4 d4)
  have z2 := hR5.put0 rc A4 l4 d4
  have z3 := hR5.put1 rc A4 l4 d4
  have hB6 : Res (w.heap.size + 1 + 1) ((W4.setCell ⟨w.heap.size + 1 + 1, 0, none⟩ (.bool rb)).setCell ⟨w.heap.size + 1 + 1, 1, none⟩ (.slice A3 l3 d3)) := hB4.res.put rb A3 l3 d3
  have z0 := hB4.res.put0 rb A3 l3 d3
  have z1 := hB4.res.put1 rb A3 l3 d3
  rw [← World.cell?_setCell_other _ ⟨w.heap.size + 1 + 1 + 1, 0, none⟩ _ (.bool rc) (by intro e; injection e with e1 _; omega), ← World.cell?_setCell_other _ ⟨w.heap.size + 1 + 1 + 1, 1, none⟩ _ (.slice A4 l4 d4) (by intro e; injection e with e1 _; omega)] at z0 z1
  have HF := Lib.hid (And.intro hu6 (And.intro hv6 hb6))
  have Z := Lib.hid (And.intro z0 (And.intro z1 (And.intro z2 z3)))
  clear hu5 hv5 hu6 hv6 hb6 z0 z1 z2 z3 hB6 hB4 hR4 hR5 hb4
  go_wp2
  have z0 := Z.out.1
  have z1 := Z.out.2.1
  have z2 := Z.out.2.2.1
  have z3 := Z.out.2.2.2
  have hf := HF.out
  clear Z HF
  generalize ((((W4.setCell ⟨w.heap.size + 1 + 1, 0, none⟩ (.bool rb)).setCell ⟨w.heap.size + 1 + 1, 1, none⟩ (.slice A3 l3 d3)).setCell ⟨w.heap.size + 1 + 1 + 1, 0, none⟩ (.bool rc)).setCell ⟨w.heap.size + 1 + 1 + 1, 1, none⟩ (.slice A4 l4 d4)) = W5 at *
  exact bodyPost_ret (v := .tuple #[.agg #[.bool rb, .slice A3 l3 d3], .agg #[.bool rc, .slice A4 l4 d4]]) (by simp [results, Tryz.results57, go_sem, z0, z1, z2, z3]) rfl ⟨_, _, rfl, hf.1, hf.2.1, hf.2.2⟩
end Go.Proofs.YtafknlnlejopeaaGreatDoor
