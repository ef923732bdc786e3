/- Divide of integers: the walk. -/
import Derived.Test.YtjghgbfagjhdgaaGreatDoorIntF
import Derived.IntWalk
import Derived.RegionTactic
import Derived.BigRegion
namespace Go.Proofs.YtjghgbfagjhdgaaGreatDoor
open Go Go.RowKit

set_option linter.unusedSimpArgs false in
set_option linter.unusedVariables false in
set_option maxHeartbeats 6400000 in
set_option maxRecDepth 100000 in
theorem divide_int {w : World} {a b : Value} {p q : Int} {k : Nat} (ha : IsInt w a p) (hb : IsInt w b q) (hq0 : q ≠ 0) (hp : p.natAbs < M.B ^ k) (hq : q.natAbs < M.B ^ k) (hk1 : 1 ≤ k) (hk : k ≤ 29000) :
    Calls Tryz.prog 105 #[a, b] w fun e w' => ∃ u v, e = .returned (.tuple #[u, v]) ∧ IsInt w' u (p / q) ∧ IsInt w' v (p % q) ∧ Below w.heap.size w w' := by
  have H := Lib.hid (And.intro ha (And.intro hb hq0))
  obtain ⟨s, hs⟩ : ∃ s, s = wrd p := ⟨_, rfl⟩
  obtain ⟨t, ht⟩ : ∃ t, t = wrd q := ⟨_, rfl⟩
  obtain ⟨A, l, c, rfl, ha1⟩ := ha.shape_s hs
  obtain ⟨A', l', c', rfl, hb1⟩ := hb.shape_s ht
  obtain ⟨sp, hsp⟩ : ∃ sp, sp = sgn p := ⟨_, rfl⟩
  obtain ⟨sq, hsq⟩ : ∃ sq, sq = sgn q := ⟨_, rfl⟩
  have hsq0 : (sq == 0) = false := by rw [beq_eq_false_iff_ne, hsq]; unfold sgn; split <;> (try split) <;> omega
  have ht0 : ¬ t = 0 := by rw [ht]; exact fun e => hq0 ((wrd_zero q).1 e)
  have HT := Lib.hid ht0
  have hbs := wrd_bounds p
  have hbt := wrd_bounds q
  rw [← hs] at hbs
  rw [← ht] at hbt
  have s1 := hbs.1
  have s2 := hbs.2
  have t1 := hbt.1
  have t2 := hbt.2
  have HS := Lib.hid (And.intro hs (And.intro ht (And.intro hsp hsq)))
  clear ha hb ha1 hb1 hs ht hsp hsq hbs hbt ht0 hq0
  go_enter Tryz.func105, Tryz.ntmps105
  go_wp2_with fail
  change Calls _ _ _ (box4 w s t (.slice A l c) (.slice A' l' c')) _
  have h0 := box4_quad w s t (.slice A l c) (.slice A' l' c')
  generalize box4 w s t (.slice A l c) (.slice A' l' c') = W0 at *
  refine (sign_any (H.out.2.1.below h0.below (Nat.le_refl _))).mono ?_
  rw [← HS.out.2.2.2]
  rintro e W1 ⟨rfl, hb1⟩
  have h1 := h0.next hb1 (Nat.le_refl _)
  have a0 := h1.a0
  have a1 := h1.a1
  have b0 := h1.b0
  have b1 := h1.b1
  clear h0 hb1
  rcases Classical.em (p.natAbs ≤ 4611686018427387903) with hps | h3p
  rcases Classical.em (q.natAbs ≤ 4611686018427387903) with h1q | h2q
  focus
    have hes : s = p := by rw [HS.out.1]; exact wrd_short hps
    have het : t = q := by rw [HS.out.2.1]; exact wrd_short h1q
    obtain ⟨x, hx⟩ : ∃ x, s.tdiv t = x := ⟨_, rfl⟩
    obtain ⟨y, hy⟩ : ∃ y, s.tmod t = y := ⟨_, rfl⟩
    have bx : x.natAbs ≤ 4611686018427387903 := by
      rw [← hx, Int.natAbs_tdiv]
      exact Nat.le_trans (Nat.div_le_self _ _) (by omega)
    have hy2 : y.natAbs ≤ 4611686018427387903 := by
      rw [← hy, Int.natAbs_tmod]
      exact Nat.le_trans (Nat.mod_le _ _) (by omega)
    have wx : IntKind.i64.wrap x = x := IntWalk.i64_in _ (by omega)
    have wy : IntKind.i64.wrap y = y := IntWalk.i64_in _ (by omega)
    have hTR : p.tdiv q = x ∧ p.tmod q = y := by rw [← hes, ← het]; exact ⟨hx, hy⟩
    have HPQ := Lib.hid (And.intro hps (And.intro h1q (And.intro bx (And.intro hy2 hTR))))
    clear hps h1q bx hy2 hTR hes het
    go_wp2_with fail
    refine (short_yes (H.out.1.below h1.below (Nat.le_refl _)) HPQ.out.1).mono ?_
    rintro e W2 ⟨rfl, hb1⟩
    have h2 := h1.next hb1 (Nat.le_refl _)
    clear a0 a1 b0 b1 h1 hb1
    have b0 := h2.b0
    have b1 := h2.b1
    go_wp2_with fail
    refine (short_yes (H.out.2.1.below h2.below (Nat.le_refl _)) HPQ.out.2.1).mono ?_
    rintro e W3 ⟨rfl, hb1⟩
    have h3 := h2.next hb1 (Nat.le_refl _)
    clear b0 b1 h2 hb1 hsq0
    have hzz := HT.out
    go_wp2_with fail
    refine Rel.region_full 14 [0, 1, 2, 3, 4, 5, 6, 7, 8, 9, 10, 11, 12, 13] (R := [Is (.pointer (some ⟨w.heap.size, 0, none⟩)), Is (.int .i64 s), Is (.pointer (some ⟨w.heap.size + 1, 0, none⟩)), Is (.int .i64 t), Is (.int .i64 x), Is (.agg #[.int .i64 x, .slice none 0 0]), Is (.pointer (some ⟨w.heap.size, 0, none⟩)), Is (.int .i64 s), Is (.pointer (some ⟨w.heap.size + 1, 0, none⟩)), Is (.int .i64 t), Is (.int .i64 y), Is (.agg #[.int .i64 y, .slice none 0 0]), In (w.heap.size + 1 + 1) x, In (w.heap.size + 1 + 1 + 1) y])
      (E := fun _ w' => Quad w w' s t (.slice A l c) (.slice A' l' c')) (T := Two2 (w.heap.size + 1 + 1) (w.heap.size + 1 + 1 + 1) x y) rfl rfl (by kernel_rfl) (by kernel_rfl) h3.drew ?_ ?_ ?_
    · intro D i v w1 w2 hi hE hT hv
      have q4 := hE.r4
      have q5 := hE.r5
      match i, hi with
      | 12, _ => exact hT.first (by omega) q4 q5 hv
      | 13, _ => exact hT.second (by omega) q4 q5 hv
      | 0, _ | 1, _ | 2, _ | 3, _ | 4, _ | 5, _ | 6, _ | 7, _ | 8, _ | 9, _ | 10, _ | 11, _ => exact hv
      | i + 14, hi => exact absurd hi (by omega)
    · refine Rel.Steps.cons (L := []) rfl (by kernel_rfl) ?_ ?_
      · intro vals w' D hE hF hR K hK
        simp only [Rel.putL, Rel.dst, List.getElem?_toArray, List.getElem?_cons_zero, List.getElem?_cons_succ, Option.bind_some, Act.put, List.setIfInBounds_toArray, List.set_cons_zero, List.set_cons_succ] at hK ⊢
        go_simp
        exact hK _ _ rfl (.inl (Below.refl _ _)) (hE)
      refine Rel.Steps.cons (L := [0]) rfl (by kernel_rfl) ?_ ?_
      · intro vals w' D hE hF hR K hK
        have d0 : vals 0 = (.pointer (some ⟨w.heap.size, 0, none⟩)) := hR.1
        have a0 := hE.a0
        simp only [Rel.putL, Rel.dst, List.getElem?_toArray, List.getElem?_cons_zero, List.getElem?_cons_succ, Option.bind_some, Act.put, List.setIfInBounds_toArray, List.set_cons_zero, List.set_cons_succ, d0] at hK ⊢
        go_simp
        exact hK _ _ rfl (.inl (Below.refl _ _)) (hE)
      refine Rel.Steps.cons (L := []) rfl (by kernel_rfl) ?_ ?_
      · intro vals w' D hE hF hR K hK
        simp only [Rel.putL, Rel.dst, List.getElem?_toArray, List.getElem?_cons_zero, List.getElem?_cons_succ, Option.bind_some, Act.put, List.setIfInBounds_toArray, List.set_cons_zero, List.set_cons_succ] at hK ⊢
        go_simp
        exact hK _ _ rfl (.inl (Below.refl _ _)) (hE)
      refine Rel.Steps.cons (L := [2]) rfl (by kernel_rfl) ?_ ?_
      · intro vals w' D hE hF hR K hK
        have d2 : vals 2 = (.pointer (some ⟨w.heap.size + 1, 0, none⟩)) := hR.1
        have b0 := hE.b0
        simp only [Rel.putL, Rel.dst, List.getElem?_toArray, List.getElem?_cons_zero, List.getElem?_cons_succ, Option.bind_some, Act.put, List.setIfInBounds_toArray, List.set_cons_zero, List.set_cons_succ, d2] at hK ⊢
        go_simp
        exact hK _ _ rfl (.inl (Below.refl _ _)) (hE)
      refine Rel.Steps.cons (L := [1, 3]) rfl (by kernel_rfl) ?_ ?_
      · intro vals w' D hE hF hR K hK
        have d1 : vals 1 = (.int .i64 s) := hR.1
        have d3 : vals 3 = (.int .i64 t) := hR.2.1
        simp only [Rel.putL, Rel.dst, List.getElem?_toArray, List.getElem?_cons_zero, List.getElem?_cons_succ, Option.bind_some, Act.put, List.setIfInBounds_toArray, List.set_cons_zero, List.set_cons_succ, d1, d3] at hK ⊢
        go_simp
        exact hK _ _ rfl (.inl (Below.refl _ _)) (hE)
      refine Rel.Steps.cons (L := [4]) rfl (by kernel_rfl) ?_ ?_
      · intro vals w' D hE hF hR K hK
        have d4 : vals 4 = (.int .i64 x) := hR.1
        simp only [Rel.putL, Rel.dst, List.getElem?_toArray, List.getElem?_cons_zero, List.getElem?_cons_succ, Option.bind_some, Act.put, List.setIfInBounds_toArray, List.set_cons_zero, List.set_cons_succ, d4] at hK ⊢
        go_simp
        exact hK _ _ rfl (.inl (Below.refl _ _)) (hE)
      refine Rel.Steps.cons (L := []) rfl (by kernel_rfl) ?_ ?_
      · intro vals w' D hE hF hR K hK
        simp only [Rel.putL, Rel.dst, List.getElem?_toArray, List.getElem?_cons_zero, List.getElem?_cons_succ, Option.bind_some, Act.put, List.setIfInBounds_toArray, List.set_cons_zero, List.set_cons_succ] at hK ⊢
        go_simp
        exact hK _ _ rfl (.inl (Below.refl _ _)) (hE)
      refine Rel.Steps.cons (L := [6]) rfl (by kernel_rfl) ?_ ?_
      · intro vals w' D hE hF hR K hK
        have d6 : vals 6 = (.pointer (some ⟨w.heap.size, 0, none⟩)) := hR.1
        have a0 := hE.a0
        simp only [Rel.putL, Rel.dst, List.getElem?_toArray, List.getElem?_cons_zero, List.getElem?_cons_succ, Option.bind_some, Act.put, List.setIfInBounds_toArray, List.set_cons_zero, List.set_cons_succ, d6] at hK ⊢
        go_simp
        exact hK _ _ rfl (.inl (Below.refl _ _)) (hE)
      refine Rel.Steps.cons (L := []) rfl (by kernel_rfl) ?_ ?_
      · intro vals w' D hE hF hR K hK
        simp only [Rel.putL, Rel.dst, List.getElem?_toArray, List.getElem?_cons_zero, List.getElem?_cons_succ, Option.bind_some, Act.put, List.setIfInBounds_toArray, List.set_cons_zero, List.set_cons_succ] at hK ⊢
        go_simp
        exact hK _ _ rfl (.inl (Below.refl _ _)) (hE)
      refine Rel.Steps.cons (L := [8]) rfl (by kernel_rfl) ?_ ?_
      · intro vals w' D hE hF hR K hK
        have d8 : vals 8 = (.pointer (some ⟨w.heap.size + 1, 0, none⟩)) := hR.1
        have b0 := hE.b0
        simp only [Rel.putL, Rel.dst, List.getElem?_toArray, List.getElem?_cons_zero, List.getElem?_cons_succ, Option.bind_some, Act.put, List.setIfInBounds_toArray, List.set_cons_zero, List.set_cons_succ, d8] at hK ⊢
        go_simp
        exact hK _ _ rfl (.inl (Below.refl _ _)) (hE)
      refine Rel.Steps.cons (L := [7, 9]) rfl (by kernel_rfl) ?_ ?_
      · intro vals w' D hE hF hR K hK
        have d7 : vals 7 = (.int .i64 s) := hR.1
        have d9 : vals 9 = (.int .i64 t) := hR.2.1
        simp only [Rel.putL, Rel.dst, List.getElem?_toArray, List.getElem?_cons_zero, List.getElem?_cons_succ, Option.bind_some, Act.put, List.setIfInBounds_toArray, List.set_cons_zero, List.set_cons_succ, d7, d9] at hK ⊢
        go_simp
        exact hK _ _ rfl (.inl (Below.refl _ _)) (hE)
      refine Rel.Steps.cons (L := [10]) rfl (by kernel_rfl) ?_ ?_
      · intro vals w' D hE hF hR K hK
        have d10 : vals 10 = (.int .i64 y) := hR.1
        simp only [Rel.putL, Rel.dst, List.getElem?_toArray, List.getElem?_cons_zero, List.getElem?_cons_succ, Option.bind_some, Act.put, List.setIfInBounds_toArray, List.set_cons_zero, List.set_cons_succ, d10] at hK ⊢
        go_simp
        exact hK _ _ rfl (.inl (Below.refl _ _)) (hE)
      refine Rel.Steps.cons (L := [5]) rfl (by kernel_rfl) ?_ ?_
      · intro vals w' D hE hF hR K hK
        have d5 : vals 5 = (.agg #[.int .i64 x, .slice none 0 0]) := hR.1
        obtain ⟨v0, c0⟩ := hE.r4.c0
        obtain ⟨v1, c1⟩ := hE.r4.c1
        have f0 := hE.r4.f0
        have f1 := hE.r4.f1
        simp only [Rel.putL, Rel.dst, List.getElem?_toArray, List.getElem?_cons_zero, List.getElem?_cons_succ, Option.bind_some, Act.put, List.setIfInBounds_toArray, List.set_cons_zero, List.set_cons_succ, d5] at hK ⊢
        go_simp
        exact hK undef (setInt w' (w.heap.size + 1 + 1) x none 0 0) ⟨x, none, 0, 0, hE.r4.put0 x none 0 0, hE.r4.put1 x none 0 0, (wrd_short HPQ.out.2.2.1).symm, hE.r4.size (Size.short _ HPQ.out.2.2.1) x none 0 0⟩ (.inr (.inl ⟨x, none, 0, 0, rfl, (wrd_short HPQ.out.2.2.1).symm, (Size.short _ HPQ.out.2.2.1)⟩)) (hE.put4 x none 0 0)
      refine Rel.Steps.cons (L := [11]) rfl (by kernel_rfl) ?_ ?_
      · intro vals w' D hE hF hR K hK
        have d11 : vals 11 = (.agg #[.int .i64 y, .slice none 0 0]) := hR.1
        obtain ⟨v0, c0⟩ := hE.r5.c0
        obtain ⟨v1, c1⟩ := hE.r5.c1
        have f0 := hE.r5.f0
        have f1 := hE.r5.f1
        simp only [Rel.putL, Rel.dst, List.getElem?_toArray, List.getElem?_cons_zero, List.getElem?_cons_succ, Option.bind_some, Act.put, List.setIfInBounds_toArray, List.set_cons_zero, List.set_cons_succ, d11] at hK ⊢
        go_simp
        exact hK undef (setInt w' (w.heap.size + 1 + 1 + 1) y none 0 0) ⟨y, none, 0, 0, hE.r5.put0 y none 0 0, hE.r5.put1 y none 0 0, (wrd_short HPQ.out.2.2.2.1).symm, hE.r5.size (Size.short _ HPQ.out.2.2.2.1) y none 0 0⟩ (.inr (.inr ⟨y, none, 0, 0, rfl, (wrd_short HPQ.out.2.2.2.1).symm, (Size.short _ HPQ.out.2.2.2.1)⟩)) (hE.put5 y none 0 0)
      exact Rel.Steps.done
    focus
      intro vals w' D hD hE hR
      have r4 := Rel.AllR.mem.1 hR 12 (by simp)
      have r5 := Rel.AllR.mem.1 hR 13 (by simp)
      simp only [Rel.putL, Rel.dst, List.getElem?_toArray, List.getElem?_cons_zero, List.getElem?_cons_succ, Option.bind_some, Act.put, List.setIfInBounds_toArray, List.set_cons_zero, List.set_cons_succ]
      clear hR
      obtain ⟨x', X, lx, cx, d0, d1, hx', sx⟩ := r4
      obtain ⟨y', Y, ly, cy, e0, e1, hy', sy⟩ := r5
      rw [← HPQ.out.2.2.2.2.1] at hx' sx
      rw [← HPQ.out.2.2.2.2.2] at hy' sy
      have hP : Put2 w w' s t (.slice A l c) (.slice A' l' c') x' X lx cx y' Y ly cy (p.tdiv q) (p.tmod q) := ⟨hE, d0, d1, e0, e1, sx, sy, hx', hy'⟩
      clear hE d0 d1 e0 e1 sx sy hx' hy' wx wy hx hy hzz h3
  rotate_left
  focus
    have HPQ := Lib.hid (And.intro hps h2q)
    clear hps h2q
    go_wp2_with fail
    refine (short_yes (H.out.1.below h1.below (Nat.le_refl _)) HPQ.out.1).mono ?_
    rintro e W2 ⟨rfl, hb1⟩
    have h2 := h1.next hb1 (Nat.le_refl _)
    clear a0 a1 b0 b1 h1 hb1
    have b0 := h2.b0
    have b1 := h2.b1
    go_wp2_with fail
    refine (short_no (H.out.2.1.below h2.below (Nat.le_refl _)) HPQ.out.2).mono ?_
    rintro e W3 ⟨rfl, hb1⟩
    have hB := h2.next hb1 (Nat.le_refl _)
    clear b0 b1 h2 hb1
    have hD := hB.drew
    have a0 := hB.a0
    have a1 := hB.a1
    have b0 := hB.b0
    have b1 := hB.b1
    have hqp : 0 < q.natAbs := by have := H.out.2.2; omega
    obtain ⟨x', hx⟩ : ∃ x', x' = wrd (p.tdiv q) := ⟨_, rfl⟩
    obtain ⟨y', hy⟩ : ∃ y', y' = wrd (p.tmod q) := ⟨_, rfl⟩
    have HXY := Lib.hid (And.intro hx hy)
    clear hx hy
    have HSG := Lib.hid (show withSign (sp != sq) (p.natAbs / q.natAbs) = p.tdiv q ∧ withSign (decide (s < 0)) (p.natAbs % q.natAbs) = p.tmod q by rw [HS.out.1, HS.out.2.2.1, HS.out.2.2.2]; exact trunc_abs H.out.2.2)
    have HB2 := Lib.hid (show p.natAbs / q.natAbs < M.B ^ k ∧ p.natAbs % q.natAbs < M.B ^ k from ⟨Nat.lt_of_le_of_lt (Nat.div_le_self _ _) hp, Nat.lt_of_le_of_lt (Nat.mod_le _ _) hp⟩)
    go_wp2_with fail
    go_region_held3 (fun w' => w'.cell? ⟨w.heap.size, 0, none⟩ = some (.int .i64 s) ∧ w'.cell? ⟨w.heap.size, 1, none⟩ = some (.slice A l c) ∧ w'.cell? ⟨w.heap.size + 1, 0, none⟩ = some (.int .i64 t) ∧ w'.cell? ⟨w.heap.size + 1, 1, none⟩ = some (.slice A' l' c') ∧ Quad w w' s t (.slice A l c) (.slice A' l' c'))
      (first | exact ⟨q3.a0, q3.a1, q3.b0, q3.b1, q3⟩ | exact ⟨q2.a0, q2.a1, q2.b0, q2.b1, q2⟩ | exact ⟨q1.a0, q1.a1, q1.b0, q1.b1, q1⟩ | exact ⟨hD.a0, hD.a1, hD.b0, hD.b1, hD⟩)
      (first
        | (go_at_call 119; go_split_ands; ((with_reducible refine (limbs_any (H.out.1.below hD.below (Nat.le_refl _))).mono ?_); rintro e w1 ⟨u, rfl, hu, hb1⟩; obtain ⟨X1, l1, c1, rfl⟩ := hu.shape; have q1 : Quad w w1 s t (.slice A l c) (.slice A' l' c') := Quad.next hD hb1 (Nat.le_refl _)))
        | (go_at_call 119; go_split_ands; ((with_reducible refine (limbs_any (H.out.2.1.below q1.below (Nat.le_refl _))).mono ?_); rintro e w2 ⟨v, rfl, hv, hb2⟩; obtain ⟨X2, l2, c2, rfl⟩ := hv.shape; have HX := Lib.hid (And.intro (hu.below hb2 (Nat.le_refl _)) hv); clear hu hv; have q2 : Quad w w2 s t (.slice A l c) (.slice A' l' c') := Quad.next q1 hb2 (Nat.le_refl _)))
        | (go_at_call 167; go_split_ands; ((with_reducible refine (divide_all (k := k) HX.out.1 HX.out.2 hp hq hk1 (by omega) hqp).mono ?_); rintro e w3 ⟨u, v, rfl, hu, hv, hb3⟩; obtain ⟨X1, l1, c1, rfl⟩ := hu.shape; obtain ⟨X2, l2, c2, rfl⟩ := hv.shape; have HU := Lib.hid (And.intro hu hv); clear hu hv; have q3 : Quad w w3 s t (.slice A l c) (.slice A' l' c') := Quad.next q2 hb3 (Nat.le_refl _))))
    have hD3 := q3.drew
    clear hb1 hb2 hb3 q1 q2 hD hB a0 a1 b0 b1
    have a0 := q3.a0
    have a1 := q3.a1
    have b0 := q3.b0
    have b1 := q3.b1
    go_wp2_with fail
    go_region_held3 (fun w' => w'.cell? ⟨w.heap.size, 0, none⟩ = some (.int .i64 s) ∧ w'.cell? ⟨w.heap.size, 1, none⟩ = some (.slice A l c) ∧ w'.cell? ⟨w.heap.size + 1, 0, none⟩ = some (.int .i64 t) ∧ w'.cell? ⟨w.heap.size + 1, 1, none⟩ = some (.slice A' l' c') ∧ Quad w w' s t (.slice A l c) (.slice A' l' c'))
      (first | exact ⟨q8b.a0, q8b.a1, q8b.b0, q8b.b1, q8b⟩ | exact ⟨q8a.a0, q8a.a1, q8a.b0, q8a.b1, q8a⟩ | exact ⟨q7.a0, q7.a1, q7.b0, q7.b1, q7⟩ | exact ⟨q6.a0, q6.a1, q6.b0, q6.b1, q6⟩ | exact ⟨q5.a0, q5.a1, q5.b0, q5.b1, q5⟩ | exact ⟨q4.a0, q4.a1, q4.b0, q4.b1, q4⟩ | exact ⟨hD3.a0, hD3.a1, hD3.b0, hD3.b1, hD3⟩)
      (first
        | (go_at_call 111; go_split_ands; ((with_reducible refine (sign_any (H.out.1.below hD3.below (Nat.le_refl _))).mono ?_); rw [← HS.out.2.2.1]; rintro e w4 ⟨rfl, hb4⟩; have q4 : Quad w w4 s t (.slice A l c) (.slice A' l' c') := Quad.next hD3 hb4 (Nat.le_refl _)))
        | (go_at_call 111; go_split_ands; ((with_reducible refine (sign_any (H.out.2.1.below q4.below (Nat.le_refl _))).mono ?_); rw [← HS.out.2.2.2]; rintro e w5 ⟨rfl, hb5⟩; have HU5 := Lib.hid (And.intro ((HU.out.1.drew.below hb4 (Nat.le_refl _)).below hb5 (Nat.le_refl _)) ((HU.out.2.drew.below hb4 (Nat.le_refl _)).below hb5 (Nat.le_refl _))); have q5 : Quad w w5 s t (.slice A l c) (.slice A' l' c') := Quad.next q4 hb5 (Nat.le_refl _)))
        | (go_at_call 114; go_split_ands; ((with_reducible refine (signed_any (k := k) _ HU5.out.1 HB2.out.1 (by omega)).mono ?_); rintro e w6 ⟨v, rfl, hv, hb6⟩; rw [HSG.out.1] at hv; obtain ⟨X, lx, cx, rfl, hv6⟩ := hv.shape_s HXY.out.1; have HV := Lib.hid (And.intro hv6 (HU5.out.2.below hb6 (Nat.le_refl _))); clear hv hv6; have q6 : Quad w w6 s t (.slice A l c) (.slice A' l' c') := Quad.next q5 hb6 (Nat.le_refl _)))
        | (go_at_call 114; go_split_ands; ((with_reducible refine (signed_any (k := k) _ HV.out.2 HB2.out.2 (by omega)).mono ?_); rintro e w7 ⟨v, rfl, hv, hb7⟩; rw [HSG.out.2] at hv; obtain ⟨Y, ly, cy, rfl, hv7⟩ := hv.shape_s HXY.out.2; have HW := Lib.hid (And.intro (HV.out.1.below hb7 (Nat.le_refl _)) hv7); clear hv hv7; have q7 : Quad w w7 s t (.slice A l c) (.slice A' l' c') := Quad.next q6 hb7 (Nat.le_refl _); obtain ⟨v0, c0⟩ := q7.r4.c0; obtain ⟨v1, c1⟩ := q7.r4.c1; have f0 := q7.r4.f0; have f1 := q7.r4.f1; have q8a := q7.put4 x' X lx cx; obtain ⟨v2, c2⟩ : ∃ v, ((w7.setCell ⟨w.heap.size + 1 + 1, 0, none⟩ (.int .i64 x')).setCell ⟨w.heap.size + 1 + 1, 1, none⟩ (.slice X lx cx)).cell? ⟨w.heap.size + 1 + 1 + 1, 0, none⟩ = some v := q8a.r5.c0; obtain ⟨v3, c3⟩ : ∃ v, ((w7.setCell ⟨w.heap.size + 1 + 1, 0, none⟩ (.int .i64 x')).setCell ⟨w.heap.size + 1 + 1, 1, none⟩ (.slice X lx cx)).cell? ⟨w.heap.size + 1 + 1 + 1, 1, none⟩ = some v := q8a.r5.c1; have f2 : ((w7.setCell ⟨w.heap.size + 1 + 1, 0, none⟩ (.int .i64 x')).setCell ⟨w.heap.size + 1 + 1, 1, none⟩ (.slice X lx cx)).frozen? ⟨w.heap.size + 1 + 1 + 1, 0, none⟩ = false := q8a.r5.f0; have f3 : ((w7.setCell ⟨w.heap.size + 1 + 1, 0, none⟩ (.int .i64 x')).setCell ⟨w.heap.size + 1 + 1, 1, none⟩ (.slice X lx cx)).frozen? ⟨w.heap.size + 1 + 1 + 1, 1, none⟩ = false := q8a.r5.f1; have q8b := q8a.put5 y' Y ly cy)))
    have hP : Put2 w (setInt (setInt w7 (w.heap.size + 1 + 1) x' X lx cx) (w.heap.size + 1 + 1 + 1) y' Y ly cy) s t (.slice A l c) (.slice A' l' c') x' X lx cx y' Y ly cy (p.tdiv q) (p.tmod q) := q7.put2 HW.out.1 HW.out.2 HXY.out.1 HXY.out.2
    rw [show ((((w7.setCell ⟨w.heap.size + 1 + 1, 0, none⟩ (.int .i64 x')).setCell ⟨w.heap.size + 1 + 1, 1, none⟩ (.slice X lx cx)).setCell ⟨w.heap.size + 1 + 1 + 1, 0, none⟩ (.int .i64 y')).setCell ⟨w.heap.size + 1 + 1 + 1, 1, none⟩ (.slice Y ly cy)) = setInt (setInt w7 (w.heap.size + 1 + 1) x' X lx cx) (w.heap.size + 1 + 1 + 1) y' Y ly cy from rfl]
    clear q8a q8b c0 c1 c2 c3 f0 f1 f2 f3 q3 q4 q5 q6 q7 hb4 hb5 hb6 hb7 hD3 a0 a1 b0 b1 hqp
    generalize setInt (setInt w7 (w.heap.size + 1 + 1) x' X lx cx) (w.heap.size + 1 + 1 + 1) y' Y ly cy = w' at *
  rotate_left
  focus
    have HPQ := Lib.hid h3p
    clear h3p
    go_wp2_with fail
    refine (short_no (H.out.1.below h1.below (Nat.le_refl _)) HPQ.out).mono ?_
    rintro e W3 ⟨rfl, hb1⟩
    have hB := h1.next hb1 (Nat.le_refl _)
    clear a0 a1 b0 b1 h1 hb1
    have hD := hB.drew
    have a0 := hB.a0
    have a1 := hB.a1
    have b0 := hB.b0
    have b1 := hB.b1
    have hqp : 0 < q.natAbs := by have := H.out.2.2; omega
    obtain ⟨x', hx⟩ : ∃ x', x' = wrd (p.tdiv q) := ⟨_, rfl⟩
    obtain ⟨y', hy⟩ : ∃ y', y' = wrd (p.tmod q) := ⟨_, rfl⟩
    have HXY := Lib.hid (And.intro hx hy)
    clear hx hy
    have HSG := Lib.hid (show withSign (sp != sq) (p.natAbs / q.natAbs) = p.tdiv q ∧ withSign (decide (s < 0)) (p.natAbs % q.natAbs) = p.tmod q by rw [HS.out.1, HS.out.2.2.1, HS.out.2.2.2]; exact trunc_abs H.out.2.2)
    have HB2 := Lib.hid (show p.natAbs / q.natAbs < M.B ^ k ∧ p.natAbs % q.natAbs < M.B ^ k from ⟨Nat.lt_of_le_of_lt (Nat.div_le_self _ _) hp, Nat.lt_of_le_of_lt (Nat.mod_le _ _) hp⟩)
    go_wp2_with fail
    go_region_held3 (fun w' => w'.cell? ⟨w.heap.size, 0, none⟩ = some (.int .i64 s) ∧ w'.cell? ⟨w.heap.size, 1, none⟩ = some (.slice A l c) ∧ w'.cell? ⟨w.heap.size + 1, 0, none⟩ = some (.int .i64 t) ∧ w'.cell? ⟨w.heap.size + 1, 1, none⟩ = some (.slice A' l' c') ∧ Quad w w' s t (.slice A l c) (.slice A' l' c'))
      (first | exact ⟨q3.a0, q3.a1, q3.b0, q3.b1, q3⟩ | exact ⟨q2.a0, q2.a1, q2.b0, q2.b1, q2⟩ | exact ⟨q1.a0, q1.a1, q1.b0, q1.b1, q1⟩ | exact ⟨hD.a0, hD.a1, hD.b0, hD.b1, hD⟩)
      (first
        | (go_at_call 119; go_split_ands; ((with_reducible refine (limbs_any (H.out.1.below hD.below (Nat.le_refl _))).mono ?_); rintro e w1 ⟨u, rfl, hu, hb1⟩; obtain ⟨X1, l1, c1, rfl⟩ := hu.shape; have q1 : Quad w w1 s t (.slice A l c) (.slice A' l' c') := Quad.next hD hb1 (Nat.le_refl _)))
        | (go_at_call 119; go_split_ands; ((with_reducible refine (limbs_any (H.out.2.1.below q1.below (Nat.le_refl _))).mono ?_); rintro e w2 ⟨v, rfl, hv, hb2⟩; obtain ⟨X2, l2, c2, rfl⟩ := hv.shape; have HX := Lib.hid (And.intro (hu.below hb2 (Nat.le_refl _)) hv); clear hu hv; have q2 : Quad w w2 s t (.slice A l c) (.slice A' l' c') := Quad.next q1 hb2 (Nat.le_refl _)))
        | (go_at_call 167; go_split_ands; ((with_reducible refine (divide_all (k := k) HX.out.1 HX.out.2 hp hq hk1 (by omega) hqp).mono ?_); rintro e w3 ⟨u, v, rfl, hu, hv, hb3⟩; obtain ⟨X1, l1, c1, rfl⟩ := hu.shape; obtain ⟨X2, l2, c2, rfl⟩ := hv.shape; have HU := Lib.hid (And.intro hu hv); clear hu hv; have q3 : Quad w w3 s t (.slice A l c) (.slice A' l' c') := Quad.next q2 hb3 (Nat.le_refl _))))
    have hD3 := q3.drew
    clear hb1 hb2 hb3 q1 q2 hD hB a0 a1 b0 b1
    have a0 := q3.a0
    have a1 := q3.a1
    have b0 := q3.b0
    have b1 := q3.b1
    go_wp2_with fail
    go_region_held3 (fun w' => w'.cell? ⟨w.heap.size, 0, none⟩ = some (.int .i64 s) ∧ w'.cell? ⟨w.heap.size, 1, none⟩ = some (.slice A l c) ∧ w'.cell? ⟨w.heap.size + 1, 0, none⟩ = some (.int .i64 t) ∧ w'.cell? ⟨w.heap.size + 1, 1, none⟩ = some (.slice A' l' c') ∧ Quad w w' s t (.slice A l c) (.slice A' l' c'))
      (first | exact ⟨q8b.a0, q8b.a1, q8b.b0, q8b.b1, q8b⟩ | exact ⟨q8a.a0, q8a.a1, q8a.b0, q8a.b1, q8a⟩ | exact ⟨q7.a0, q7.a1, q7.b0, q7.b1, q7⟩ | exact ⟨q6.a0, q6.a1, q6.b0, q6.b1, q6⟩ | exact ⟨q5.a0, q5.a1, q5.b0, q5.b1, q5⟩ | exact ⟨q4.a0, q4.a1, q4.b0, q4.b1, q4⟩ | exact ⟨hD3.a0, hD3.a1, hD3.b0, hD3.b1, hD3⟩)
      (first
        | (go_at_call 111; go_split_ands; ((with_reducible refine (sign_any (H.out.1.below hD3.below (Nat.le_refl _))).mono ?_); rw [← HS.out.2.2.1]; rintro e w4 ⟨rfl, hb4⟩; have q4 : Quad w w4 s t (.slice A l c) (.slice A' l' c') := Quad.next hD3 hb4 (Nat.le_refl _)))
        | (go_at_call 111; go_split_ands; ((with_reducible refine (sign_any (H.out.2.1.below q4.below (Nat.le_refl _))).mono ?_); rw [← HS.out.2.2.2]; rintro e w5 ⟨rfl, hb5⟩; have HU5 := Lib.hid (And.intro ((HU.out.1.drew.below hb4 (Nat.le_refl _)).below hb5 (Nat.le_refl _)) ((HU.out.2.drew.below hb4 (Nat.le_refl _)).below hb5 (Nat.le_refl _))); have q5 : Quad w w5 s t (.slice A l c) (.slice A' l' c') := Quad.next q4 hb5 (Nat.le_refl _)))
        | (go_at_call 114; go_split_ands; ((with_reducible refine (signed_any (k := k) _ HU5.out.1 HB2.out.1 (by omega)).mono ?_); rintro e w6 ⟨v, rfl, hv, hb6⟩; rw [HSG.out.1] at hv; obtain ⟨X, lx, cx, rfl, hv6⟩ := hv.shape_s HXY.out.1; have HV := Lib.hid (And.intro hv6 (HU5.out.2.below hb6 (Nat.le_refl _))); clear hv hv6; have q6 : Quad w w6 s t (.slice A l c) (.slice A' l' c') := Quad.next q5 hb6 (Nat.le_refl _)))
        | (go_at_call 114; go_split_ands; ((with_reducible refine (signed_any (k := k) _ HV.out.2 HB2.out.2 (by omega)).mono ?_); rintro e w7 ⟨v, rfl, hv, hb7⟩; rw [HSG.out.2] at hv; obtain ⟨Y, ly, cy, rfl, hv7⟩ := hv.shape_s HXY.out.2; have HW := Lib.hid (And.intro (HV.out.1.below hb7 (Nat.le_refl _)) hv7); clear hv hv7; have q7 : Quad w w7 s t (.slice A l c) (.slice A' l' c') := Quad.next q6 hb7 (Nat.le_refl _); obtain ⟨v0, c0⟩ := q7.r4.c0; obtain ⟨v1, c1⟩ := q7.r4.c1; have f0 := q7.r4.f0; have f1 := q7.r4.f1; have q8a := q7.put4 x' X lx cx; obtain ⟨v2, c2⟩ : ∃ v, ((w7.setCell ⟨w.heap.size + 1 + 1, 0, none⟩ (.int .i64 x')).setCell ⟨w.heap.size + 1 + 1, 1, none⟩ (.slice X lx cx)).cell? ⟨w.heap.size + 1 + 1 + 1, 0, none⟩ = some v := q8a.r5.c0; obtain ⟨v3, c3⟩ : ∃ v, ((w7.setCell ⟨w.heap.size + 1 + 1, 0, none⟩ (.int .i64 x')).setCell ⟨w.heap.size + 1 + 1, 1, none⟩ (.slice X lx cx)).cell? ⟨w.heap.size + 1 + 1 + 1, 1, none⟩ = some v := q8a.r5.c1; have f2 : ((w7.setCell ⟨w.heap.size + 1 + 1, 0, none⟩ (.int .i64 x')).setCell ⟨w.heap.size + 1 + 1, 1, none⟩ (.slice X lx cx)).frozen? ⟨w.heap.size + 1 + 1 + 1, 0, none⟩ = false := q8a.r5.f0; have f3 : ((w7.setCell ⟨w.heap.size + 1 + 1, 0, none⟩ (.int .i64 x')).setCell ⟨w.heap.size + 1 + 1, 1, none⟩ (.slice X lx cx)).frozen? ⟨w.heap.size + 1 + 1 + 1, 1, none⟩ = false := q8a.r5.f1; have q8b := q8a.put5 y' Y ly cy)))
    have hP : Put2 w (setInt (setInt w7 (w.heap.size + 1 + 1) x' X lx cx) (w.heap.size + 1 + 1 + 1) y' Y ly cy) s t (.slice A l c) (.slice A' l' c') x' X lx cx y' Y ly cy (p.tdiv q) (p.tmod q) := q7.put2 HW.out.1 HW.out.2 HXY.out.1 HXY.out.2
    rw [show ((((w7.setCell ⟨w.heap.size + 1 + 1, 0, none⟩ (.int .i64 x')).setCell ⟨w.heap.size + 1 + 1, 1, none⟩ (.slice X lx cx)).setCell ⟨w.heap.size + 1 + 1 + 1, 0, none⟩ (.int .i64 y')).setCell ⟨w.heap.size + 1 + 1 + 1, 1, none⟩ (.slice Y ly cy)) = setInt (setInt w7 (w.heap.size + 1 + 1) x' X lx cx) (w.heap.size + 1 + 1 + 1) y' Y ly cy from rfl]
    clear q8a q8b c0 c1 c2 c3 f0 f1 f2 f3 q3 q4 q5 q6 q7 hb4 hb5 hb6 hb7 hD3 a0 a1 b0 b1 hqp
    generalize setInt (setInt w7 (w.heap.size + 1 + 1) x' X lx cx) (w.heap.size + 1 + 1 + 1) y' Y ly cy = w' at *
  all_goals try clear hsq0
  all_goals
    have e0 := hP.e0
    have e1 := hP.e1
    have HP := Lib.hid hP
    obtain ⟨sr, hsr⟩ : ∃ sr, sr = sgn (p.tmod q) := ⟨_, rfl⟩
    have HSR := Lib.hid hsr
    clear hP hsr
    go_wp2_with fail
    refine (sign_any HP.out.int5).mono ?_
    rw [← HSR.out]
    rintro e V1 ⟨rfl, hb1⟩
    have HV := Lib.hid (HP.out.next hb1 (Nat.le_refl _))
    clear hb1 e0 e1
    by_cases hr : 0 ≤ p.tmod q
    · have hsr0 : 0 ≤ sr := by rw [HSR.out]; unfold sgn; split <;> (try split) <;> omega
      have HE := Lib.hid ((euclid_of (p := p) H.out.2.2).1 hr)
      clear hr
      go_wp2_with fail
      refine Rel.region_full 4 [0, 1, 2, 3] (R := [Is (.agg #[.int .i64 x', .slice X lx cx]), Is (.agg #[.int .i64 y', .slice Y ly cy]), In (w.heap.size + 1 + 1) (p.tdiv q), In (w.heap.size + 1 + 1 + 1) (p.tmod q)])
        (E := Hold w s t (.slice A l c) (.slice A' l' c') 2 3 x' X lx cx y' Y ly cy (p.tdiv q) (p.tmod q)) (T := Two2 (w.heap.size + 1 + 1) (w.heap.size + 1 + 1 + 1) (p.tdiv q) (p.tmod q)) rfl rfl (by kernel_rfl) (by kernel_rfl) (Put2.hold HV.out.drew 2 3) ?_ ?_ ?_
      · intro D i v w1 w2 hi hE hT hv
        have q4 := hE.q.r4
        have q5 := hE.q.r5
        match i, hi with
        | 2, _ => exact hT.first (by omega) q4 q5 hv
        | 3, _ => exact hT.second (by omega) q4 q5 hv
        | 0, _ | 1, _ => exact hv
        | i + 4, hi => exact absurd hi (by omega)
      · refine Rel.Steps.cons (L := []) rfl (by kernel_rfl) ?_ ?_
        · intro vals w' D hE hF hR K hK
          obtain ⟨d0, d1⟩ := hE.d (hF.not (j := 2) (by kernel_rfl))
          simp only [Rel.putL, Rel.dst, List.getElem?_toArray, List.getElem?_cons_zero, List.getElem?_cons_succ, Option.bind_some, Act.put, List.setIfInBounds_toArray, List.set_cons_zero, List.set_cons_succ] at hK ⊢
          go_simp
          exact hK _ _ rfl (.inl (Below.refl _ _)) (hE.same 0)
        refine Rel.Steps.cons (L := []) rfl (by kernel_rfl) ?_ ?_
        · intro vals w' D hE hF hR K hK
          obtain ⟨e0, e1⟩ := hE.e (hF.not (j := 3) (by kernel_rfl))
          simp only [Rel.putL, Rel.dst, List.getElem?_toArray, List.getElem?_cons_zero, List.getElem?_cons_succ, Option.bind_some, Act.put, List.setIfInBounds_toArray, List.set_cons_zero, List.set_cons_succ] at hK ⊢
          go_simp
          exact hK _ _ rfl (.inl (Below.refl _ _)) (hE.same 1)
        refine Rel.Steps.cons (L := [0]) rfl (by kernel_rfl) ?_ ?_
        · intro vals w' D hE hF hR K hK
          have d0 : vals 0 = (.agg #[.int .i64 x', .slice X lx cx]) := hR.1
          obtain ⟨v0, c0⟩ := hE.q.r4.c0
          obtain ⟨v1, c1⟩ := hE.q.r4.c1
          have f0 := hE.q.r4.f0
          have f1 := hE.q.r4.f1
          simp only [Rel.putL, Rel.dst, List.getElem?_toArray, List.getElem?_cons_zero, List.getElem?_cons_succ, Option.bind_some, Act.put, List.setIfInBounds_toArray, List.set_cons_zero, List.set_cons_succ, d0] at hK ⊢
          go_simp
          exact hK undef (setInt w' (w.heap.size + 1 + 1) x' X lx cx) ⟨x', X, lx, cx, hE.q.r4.put0 x' X lx cx, hE.q.r4.put1 x' X lx cx, hE.hx, hE.q.r4.size hE.sT x' X lx cx⟩ (.inr (.inl ⟨x', X, lx, cx, rfl, hE.hx, hE.sT⟩)) (hE.put4 x' X lx cx)
        refine Rel.Steps.cons (L := [1]) rfl (by kernel_rfl) ?_ ?_
        · intro vals w' D hE hF hR K hK
          have d1 : vals 1 = (.agg #[.int .i64 y', .slice Y ly cy]) := hR.1
          obtain ⟨v0, c0⟩ := hE.q.r5.c0
          obtain ⟨v1, c1⟩ := hE.q.r5.c1
          have f0 := hE.q.r5.f0
          have f1 := hE.q.r5.f1
          simp only [Rel.putL, Rel.dst, List.getElem?_toArray, List.getElem?_cons_zero, List.getElem?_cons_succ, Option.bind_some, Act.put, List.setIfInBounds_toArray, List.set_cons_zero, List.set_cons_succ, d1] at hK ⊢
          go_simp
          exact hK undef (setInt w' (w.heap.size + 1 + 1 + 1) y' Y ly cy) ⟨y', Y, ly, cy, hE.q.r5.put0 y' Y ly cy, hE.q.r5.put1 y' Y ly cy, hE.hy, hE.q.r5.size hE.sR y' Y ly cy⟩ (.inr (.inr ⟨y', Y, ly, cy, rfl, hE.hy, hE.sR⟩)) (hE.put5 y' Y ly cy)
        exact Rel.Steps.done
      · intro vals w' D hD hE hR
        have r4 := Rel.AllR.mem.1 hR 2 (by simp)
        have r5 := Rel.AllR.mem.1 hR 3 (by simp)
        simp only [Rel.putL, Rel.dst, List.getElem?_toArray, List.getElem?_cons_zero, List.getElem?_cons_succ, Option.bind_some, Act.put, List.setIfInBounds_toArray, List.set_cons_zero, List.set_cons_succ]
        clear hR
        have hq := hE.q
        obtain ⟨x2, X2, l2, c2, d0, d1, hx2, sx⟩ := r4
        obtain ⟨y2, Y2, m2, k2, e0, e1, hy2, sy⟩ := r5
        rw [← HE.out.1] at hx2 sx
        rw [← HE.out.2] at hy2 sy
        clear hE
        go_wp2
        refine bodyPost_ret (v := .tuple #[.agg #[.int .i64 x2, .slice X2 l2 c2], .agg #[.int .i64 y2, .slice Y2 m2 k2]]) (by simp [results, Tryz.results105, go_sem, d0, d1, e0, e1]) rfl ⟨_, _, rfl, ⟨X2, l2, c2, by rw [hx2], sx⟩, ⟨Y2, m2, k2, by rw [hy2], sy⟩, hq.below⟩
    · have hsr0 : ¬ 0 ≤ sr := by rw [HSR.out]; unfold sgn; rw [if_pos (by omega)]; omega
      have b0 := HV.out.q.b0
      have b1 := HV.out.q.b1
      have HBB := Lib.hid (show (p.tdiv q).natAbs < M.B ^ k ∧ (p.tmod q).natAbs < M.B ^ k ∧ (1 : Int).natAbs < M.B ^ k from by
        refine ⟨?_, ?_, ?_⟩
        · rw [Int.natAbs_tdiv]; exact Nat.lt_of_le_of_lt (Nat.div_le_self _ _) hp
        · rw [Int.natAbs_tmod]; exact Nat.lt_of_le_of_lt (Nat.mod_le _ _) hp
        · have h1 := M.pow_mono hk1
          rw [Nat.pow_one] at h1
          have := M.B_two
          show 1 < _
          omega)
      have HH := Lib.hid hr
      clear hr
      go_wp2_with fail
      refine (sign_any (H.out.2.1.below HV.out.q.below (Nat.le_refl _))).mono ?_
      rw [← HS.out.2.2.2]
      rintro e V2 ⟨rfl, hb2⟩
      have HV2 := Lib.hid (HV.out.next hb2 (Nat.le_refl _))
      clear hb2 b0 b1
      by_cases hqp : 0 < q
      · have hsq1 : 0 < sq := by rw [HS.out.2.2.2]; unfold sgn; rw [if_neg (by omega), if_pos hqp]; omega
        have HE := Lib.hid ((euclid_of (p := p) H.out.2.2).2.1 (by have := HH.out; omega) hqp)
        clear hqp
        go_wp2_with fail
        refine Rel.region_full 8 [0, 1, 2, 3, 4, 5, 6, 7] (R := [Is (.agg #[.int .i64 x', .slice X lx cx]), IsI 1, IsI (p / q), Is (.agg #[.int .i64 y', .slice Y ly cy]), Is (.agg #[.int .i64 t, .slice A' l' c']), IsI (p % q), In (w.heap.size + 1 + 1) (p / q), In (w.heap.size + 1 + 1 + 1) (p % q)])
          (E := Hold w s t (.slice A l c) (.slice A' l' c') 6 7 x' X lx cx y' Y ly cy (p.tdiv q) (p.tmod q)) (T := Two2 (w.heap.size + 1 + 1) (w.heap.size + 1 + 1 + 1) (p / q) (p % q)) rfl rfl (by kernel_rfl) (by kernel_rfl) (Put2.hold HV2.out.drew 6 7) ?_ ?_ ?_
        · intro D i v w1 w2 hi hE hT hv
          have q4 := hE.q.r4
          have q5 := hE.q.r5
          match i, hi with
          | 6, _ => exact hT.first (by omega) q4 q5 hv
          | 7, _ => exact hT.second (by omega) q4 q5 hv
          | 1, _ | 2, _ | 5, _ => exact hT.int q4 q5 hv
          | 0, _ | 3, _ | 4, _ => exact hv
          | i + 8, hi => exact absurd hi (by omega)
        · refine Rel.Steps.cons (L := []) rfl (by kernel_rfl) ?_ ?_
          · intro vals w' D hE hF hR K hK
            obtain ⟨d0, d1⟩ := hE.d (hF.not (j := 6) (by kernel_rfl))
            simp only [Rel.putL, Rel.dst, List.getElem?_toArray, List.getElem?_cons_zero, List.getElem?_cons_succ, Option.bind_some, Act.put, List.setIfInBounds_toArray, List.set_cons_zero, List.set_cons_succ] at hK ⊢
            go_simp
            exact hK _ _ rfl (.inl (Below.refl _ _)) (hE.same 0)
          refine Rel.Steps.cons (L := []) rfl (by kernel_rfl) ?_ ?_
          · intro vals w' D hE hF hR K hK
            simp only [Rel.putL, Rel.dst, List.getElem?_toArray, List.getElem?_cons_zero, List.getElem?_cons_succ, Option.bind_some, Act.put, List.setIfInBounds_toArray, List.set_cons_zero, List.set_cons_succ] at hK ⊢
            go_simp
            go_at_call 47
            refine (make_any (z := 1) (by omega) (by omega)).mono ?_
            rintro e w2 ⟨v, rfl, hv, hb⟩
            exact hK _ _ hv (.inl hb) (hE.grow hb 1)
          refine Rel.Steps.cons (L := [0, 1]) rfl (by kernel_rfl) ?_ ?_
          · intro vals w' D hE hF hR K hK
            have d0 : vals 0 = (.agg #[.int .i64 x', .slice X lx cx]) := hR.1
            have r1 := hR.2.1
            simp only [Rel.putL, Rel.dst, List.getElem?_toArray, List.getElem?_cons_zero, List.getElem?_cons_succ, Option.bind_some, Act.put, List.setIfInBounds_toArray, List.set_cons_zero, List.set_cons_succ, d0] at hK ⊢
            go_simp
            go_at_call 168
            refine (minus_int (k := k) hE.int4 r1 HBB.out.1 HBB.out.2.2 hk).mono ?_
            rintro e w2 ⟨v, rfl, hv, hb⟩
            rw [← HE.out.1] at hv
            exact hK _ _ hv (.inl hb) (hE.grow hb 2)
          refine Rel.Steps.cons (L := []) rfl (by kernel_rfl) ?_ ?_
          · intro vals w' D hE hF hR K hK
            obtain ⟨e0, e1⟩ := hE.e (hF.not (j := 7) (by kernel_rfl))
            simp only [Rel.putL, Rel.dst, List.getElem?_toArray, List.getElem?_cons_zero, List.getElem?_cons_succ, Option.bind_some, Act.put, List.setIfInBounds_toArray, List.set_cons_zero, List.set_cons_succ] at hK ⊢
            go_simp
            exact hK _ _ rfl (.inl (Below.refl _ _)) (hE.same 3)
          refine Rel.Steps.cons (L := []) rfl (by kernel_rfl) ?_ ?_
          · intro vals w' D hE hF hR K hK
            have b0 := hE.q.b0
            have b1 := hE.q.b1
            simp only [Rel.putL, Rel.dst, List.getElem?_toArray, List.getElem?_cons_zero, List.getElem?_cons_succ, Option.bind_some, Act.put, List.setIfInBounds_toArray, List.set_cons_zero, List.set_cons_succ] at hK ⊢
            go_simp
            exact hK _ _ rfl (.inl (Below.refl _ _)) (hE.same 4)
          refine Rel.Steps.cons (L := [3, 4]) rfl (by kernel_rfl) ?_ ?_
          · intro vals w' D hE hF hR K hK
            have d3 : vals 3 = (.agg #[.int .i64 y', .slice Y ly cy]) := hR.1
            have d4 : vals 4 = (.agg #[.int .i64 t, .slice A' l' c']) := hR.2.1
            simp only [Rel.putL, Rel.dst, List.getElem?_toArray, List.getElem?_cons_zero, List.getElem?_cons_succ, Option.bind_some, Act.put, List.setIfInBounds_toArray, List.set_cons_zero, List.set_cons_succ, d3, d4] at hK ⊢
            go_simp
            go_at_call 169
            refine (plus_int (k := k) hE.int5 (H.out.2.1.below hE.q.below (Nat.le_refl _)) HBB.out.2.1 hq hk).mono ?_
            rintro e w2 ⟨v, rfl, hv, hb⟩
            rw [← HE.out.2] at hv
            exact hK _ _ hv (.inl hb) (hE.grow hb 5)
          refine Rel.Steps.cons (L := [2]) rfl (by kernel_rfl) ?_ ?_
          · intro vals w' D hE hF hR K hK
            have r2 := hR.1
            obtain ⟨X2, l2, c2, u2, s2⟩ := r2
            obtain ⟨z2, hz2⟩ : ∃ z2, z2 = wrd (p / q) := ⟨_, rfl⟩
            rw [← hz2] at u2
            have HZ := Lib.hid hz2
            clear hz2
            obtain ⟨v0, c0⟩ := hE.q.r4.c0
            obtain ⟨v1, c1⟩ := hE.q.r4.c1
            have f0 := hE.q.r4.f0
            have f1 := hE.q.r4.f1
            simp only [Rel.putL, Rel.dst, List.getElem?_toArray, List.getElem?_cons_zero, List.getElem?_cons_succ, Option.bind_some, Act.put, List.setIfInBounds_toArray, List.set_cons_zero, List.set_cons_succ, u2] at hK ⊢
            go_simp
            exact hK undef (setInt w' (w.heap.size + 1 + 1) z2 X2 l2 c2) ⟨z2, X2, l2, c2, hE.q.r4.put0 z2 X2 l2 c2, hE.q.r4.put1 z2 X2 l2 c2, HZ.out, hE.q.r4.size s2 z2 X2 l2 c2⟩ (.inr (.inl ⟨z2, X2, l2, c2, rfl, HZ.out, s2⟩)) (hE.put4 z2 X2 l2 c2)
          refine Rel.Steps.cons (L := [5]) rfl (by kernel_rfl) ?_ ?_
          · intro vals w' D hE hF hR K hK
            have r5 := hR.1
            obtain ⟨X2, l2, c2, u2, s2⟩ := r5
            obtain ⟨z2, hz2⟩ : ∃ z2, z2 = wrd (p % q) := ⟨_, rfl⟩
            rw [← hz2] at u2
            have HZ := Lib.hid hz2
            clear hz2
            obtain ⟨v0, c0⟩ := hE.q.r5.c0
            obtain ⟨v1, c1⟩ := hE.q.r5.c1
            have f0 := hE.q.r5.f0
            have f1 := hE.q.r5.f1
            simp only [Rel.putL, Rel.dst, List.getElem?_toArray, List.getElem?_cons_zero, List.getElem?_cons_succ, Option.bind_some, Act.put, List.setIfInBounds_toArray, List.set_cons_zero, List.set_cons_succ, u2] at hK ⊢
            go_simp
            exact hK undef (setInt w' (w.heap.size + 1 + 1 + 1) z2 X2 l2 c2) ⟨z2, X2, l2, c2, hE.q.r5.put0 z2 X2 l2 c2, hE.q.r5.put1 z2 X2 l2 c2, HZ.out, hE.q.r5.size s2 z2 X2 l2 c2⟩ (.inr (.inr ⟨z2, X2, l2, c2, rfl, HZ.out, s2⟩)) (hE.put5 z2 X2 l2 c2)
          exact Rel.Steps.done
        · intro vals w' D hD hE hR
          have r4 := Rel.AllR.mem.1 hR 6 (by simp)
          have r5 := Rel.AllR.mem.1 hR 7 (by simp)
          simp only [Rel.putL, Rel.dst, List.getElem?_toArray, List.getElem?_cons_zero, List.getElem?_cons_succ, Option.bind_some, Act.put, List.setIfInBounds_toArray, List.set_cons_zero, List.set_cons_succ]
          clear hR
          have hq := hE.q
          obtain ⟨x2, X2, l2, c2, d0, d1, hx2, sx⟩ := r4
          obtain ⟨y2, Y2, m2, k2, e0, e1, hy2, sy⟩ := r5
          clear hE
          go_wp2
          refine bodyPost_ret (v := .tuple #[.agg #[.int .i64 x2, .slice X2 l2 c2], .agg #[.int .i64 y2, .slice Y2 m2 k2]]) (by simp [results, Tryz.results105, go_sem, d0, d1, e0, e1]) rfl ⟨_, _, rfl, ⟨X2, l2, c2, by rw [hx2], sx⟩, ⟨Y2, m2, k2, by rw [hy2], sy⟩, hq.below⟩
      · have hsq1 : ¬ 0 < sq := by rw [HS.out.2.2.2]; unfold sgn; rw [if_pos (by have := H.out.2.2; omega)]; omega
        have HE := Lib.hid ((euclid_of (p := p) H.out.2.2).2.2 (by have := HH.out; omega) (by have := H.out.2.2; omega))
        clear hqp
        go_wp2_with fail
        refine Rel.region_full 8 [0, 1, 2, 3, 4, 5, 6, 7] (R := [Is (.agg #[.int .i64 x', .slice X lx cx]), IsI 1, IsI (p / q), Is (.agg #[.int .i64 y', .slice Y ly cy]), Is (.agg #[.int .i64 t, .slice A' l' c']), IsI (p % q), In (w.heap.size + 1 + 1) (p / q), In (w.heap.size + 1 + 1 + 1) (p % q)])
          (E := Hold w s t (.slice A l c) (.slice A' l' c') 6 7 x' X lx cx y' Y ly cy (p.tdiv q) (p.tmod q)) (T := Two2 (w.heap.size + 1 + 1) (w.heap.size + 1 + 1 + 1) (p / q) (p % q)) rfl rfl (by kernel_rfl) (by kernel_rfl) (Put2.hold HV2.out.drew 6 7) ?_ ?_ ?_
        · intro D i v w1 w2 hi hE hT hv
          have q4 := hE.q.r4
          have q5 := hE.q.r5
          match i, hi with
          | 6, _ => exact hT.first (by omega) q4 q5 hv
          | 7, _ => exact hT.second (by omega) q4 q5 hv
          | 1, _ | 2, _ | 5, _ => exact hT.int q4 q5 hv
          | 0, _ | 3, _ | 4, _ => exact hv
          | i + 8, hi => exact absurd hi (by omega)
        · refine Rel.Steps.cons (L := []) rfl (by kernel_rfl) ?_ ?_
          · intro vals w' D hE hF hR K hK
            obtain ⟨d0, d1⟩ := hE.d (hF.not (j := 6) (by kernel_rfl))
            simp only [Rel.putL, Rel.dst, List.getElem?_toArray, List.getElem?_cons_zero, List.getElem?_cons_succ, Option.bind_some, Act.put, List.setIfInBounds_toArray, List.set_cons_zero, List.set_cons_succ] at hK ⊢
            go_simp
            exact hK _ _ rfl (.inl (Below.refl _ _)) (hE.same 0)
          refine Rel.Steps.cons (L := []) rfl (by kernel_rfl) ?_ ?_
          · intro vals w' D hE hF hR K hK
            simp only [Rel.putL, Rel.dst, List.getElem?_toArray, List.getElem?_cons_zero, List.getElem?_cons_succ, Option.bind_some, Act.put, List.setIfInBounds_toArray, List.set_cons_zero, List.set_cons_succ] at hK ⊢
            go_simp
            go_at_call 47
            refine (make_any (z := 1) (by omega) (by omega)).mono ?_
            rintro e w2 ⟨v, rfl, hv, hb⟩
            exact hK _ _ hv (.inl hb) (hE.grow hb 1)
          refine Rel.Steps.cons (L := [0, 1]) rfl (by kernel_rfl) ?_ ?_
          · intro vals w' D hE hF hR K hK
            have d0 : vals 0 = (.agg #[.int .i64 x', .slice X lx cx]) := hR.1
            have r1 := hR.2.1
            simp only [Rel.putL, Rel.dst, List.getElem?_toArray, List.getElem?_cons_zero, List.getElem?_cons_succ, Option.bind_some, Act.put, List.setIfInBounds_toArray, List.set_cons_zero, List.set_cons_succ, d0] at hK ⊢
            go_simp
            go_at_call 169
            refine (plus_int (k := k) hE.int4 r1 HBB.out.1 HBB.out.2.2 hk).mono ?_
            rintro e w2 ⟨v, rfl, hv, hb⟩
            rw [← HE.out.1] at hv
            exact hK _ _ hv (.inl hb) (hE.grow hb 2)
          refine Rel.Steps.cons (L := []) rfl (by kernel_rfl) ?_ ?_
          · intro vals w' D hE hF hR K hK
            obtain ⟨e0, e1⟩ := hE.e (hF.not (j := 7) (by kernel_rfl))
            simp only [Rel.putL, Rel.dst, List.getElem?_toArray, List.getElem?_cons_zero, List.getElem?_cons_succ, Option.bind_some, Act.put, List.setIfInBounds_toArray, List.set_cons_zero, List.set_cons_succ] at hK ⊢
            go_simp
            exact hK _ _ rfl (.inl (Below.refl _ _)) (hE.same 3)
          refine Rel.Steps.cons (L := []) rfl (by kernel_rfl) ?_ ?_
          · intro vals w' D hE hF hR K hK
            have b0 := hE.q.b0
            have b1 := hE.q.b1
            simp only [Rel.putL, Rel.dst, List.getElem?_toArray, List.getElem?_cons_zero, List.getElem?_cons_succ, Option.bind_some, Act.put, List.setIfInBounds_toArray, List.set_cons_zero, List.set_cons_succ] at hK ⊢
            go_simp
            exact hK _ _ rfl (.inl (Below.refl _ _)) (hE.same 4)
          refine Rel.Steps.cons (L := [3, 4]) rfl (by kernel_rfl) ?_ ?_
          · intro vals w' D hE hF hR K hK
            have d3 : vals 3 = (.agg #[.int .i64 y', .slice Y ly cy]) := hR.1
            have d4 : vals 4 = (.agg #[.int .i64 t, .slice A' l' c']) := hR.2.1
            simp only [Rel.putL, Rel.dst, List.getElem?_toArray, List.getElem?_cons_zero, List.getElem?_cons_succ, Option.bind_some, Act.put, List.setIfInBounds_toArray, List.set_cons_zero, List.set_cons_succ, d3, d4] at hK ⊢
            go_simp
            go_at_call 168
            refine (minus_int (k := k) hE.int5 (H.out.2.1.below hE.q.below (Nat.le_refl _)) HBB.out.2.1 hq hk).mono ?_
            rintro e w2 ⟨v, rfl, hv, hb⟩
            rw [← HE.out.2] at hv
            exact hK _ _ hv (.inl hb) (hE.grow hb 5)
          refine Rel.Steps.cons (L := [2]) rfl (by kernel_rfl) ?_ ?_
          · intro vals w' D hE hF hR K hK
            have r2 := hR.1
            obtain ⟨X2, l2, c2, u2, s2⟩ := r2
            obtain ⟨z2, hz2⟩ : ∃ z2, z2 = wrd (p / q) := ⟨_, rfl⟩
            rw [← hz2] at u2
            have HZ := Lib.hid hz2
            clear hz2
            obtain ⟨v0, c0⟩ := hE.q.r4.c0
            obtain ⟨v1, c1⟩ := hE.q.r4.c1
            have f0 := hE.q.r4.f0
            have f1 := hE.q.r4.f1
            simp only [Rel.putL, Rel.dst, List.getElem?_toArray, List.getElem?_cons_zero, List.getElem?_cons_succ, Option.bind_some, Act.put, List.setIfInBounds_toArray, List.set_cons_zero, List.set_cons_succ, u2] at hK ⊢
            go_simp
            exact hK undef (setInt w' (w.heap.size + 1 + 1) z2 X2 l2 c2) ⟨z2, X2, l2, c2, hE.q.r4.put0 z2 X2 l2 c2, hE.q.r4.put1 z2 X2 l2 c2, HZ.out, hE.q.r4.size s2 z2 X2 l2 c2⟩ (.inr (.inl ⟨z2, X2, l2, c2, rfl, HZ.out, s2⟩)) (hE.put4 z2 X2 l2 c2)
          refine Rel.Steps.cons (L := [5]) rfl (by kernel_rfl) ?_ ?_
          · intro vals w' D hE hF hR K hK
            have r5 := hR.1
            obtain ⟨X2, l2, c2, u2, s2⟩ := r5
            obtain ⟨z2, hz2⟩ : ∃ z2, z2 = wrd (p % q) := ⟨_, rfl⟩
            rw [← hz2] at u2
            have HZ := Lib.hid hz2
            clear hz2
            obtain ⟨v0, c0⟩ := hE.q.r5.c0
            obtain ⟨v1, c1⟩ := hE.q.r5.c1
            have f0 := hE.q.r5.f0
            have f1 := hE.q.r5.f1
            simp only [Rel.putL, Rel.dst, List.getElem?_toArray, List.getElem?_cons_zero, List.getElem?_cons_succ, Option.bind_some, Act.put, List.setIfInBounds_toArray, List.set_cons_zero, List.set_cons_succ, u2] at hK ⊢
            go_simp
            exact hK undef (setInt w' (w.heap.size + 1 + 1 + 1) z2 X2 l2 c2) ⟨z2, X2, l2, c2, hE.q.r5.put0 z2 X2 l2 c2, hE.q.r5.put1 z2 X2 l2 c2, HZ.out, hE.q.r5.size s2 z2 X2 l2 c2⟩ (.inr (.inr ⟨z2, X2, l2, c2, rfl, HZ.out, s2⟩)) (hE.put5 z2 X2 l2 c2)
          exact Rel.Steps.done
        · intro vals w' D hD hE hR
          have r4 := Rel.AllR.mem.1 hR 6 (by simp)
          have r5 := Rel.AllR.mem.1 hR 7 (by simp)
          simp only [Rel.putL, Rel.dst, List.getElem?_toArray, List.getElem?_cons_zero, List.getElem?_cons_succ, Option.bind_some, Act.put, List.setIfInBounds_toArray, List.set_cons_zero, List.set_cons_succ]
          clear hR
          have hq := hE.q
          obtain ⟨x2, X2, l2, c2, d0, d1, hx2, sx⟩ := r4
          obtain ⟨y2, Y2, m2, k2, e0, e1, hy2, sy⟩ := r5
          clear hE
          go_wp2
          refine bodyPost_ret (v := .tuple #[.agg #[.int .i64 x2, .slice X2 l2 c2], .agg #[.int .i64 y2, .slice Y2 m2 k2]]) (by simp [results, Tryz.results105, go_sem, d0, d1, e0, e1]) rfl ⟨_, _, rfl, ⟨X2, l2, c2, by rw [hx2], sx⟩, ⟨Y2, m2, k2, by rw [hy2], sy⟩, hq.below⟩
end Go.Proofs.YtjghgbfagjhdgaaGreatDoor
