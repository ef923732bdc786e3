/- Plus. Minus, Times of integers. -/
import Derived.Test.YtjghgbfagjhdgaaGreatDoorInts
import Derived.Deep.RegionHeld3
import Derived.WalkSpells
namespace Go.Proofs.YtjghgbfagjhdgaaGreatDoor
open Go Go.RowKit

/-- Two boxed integers and a place for a third. -/
def box3 (w : World) (s t : Int) (u v : Value) : World := ((w.alloc (.cells #[.int .i64 s, u] 77)).alloc (.cells #[.int .i64 t, v] 77)).alloc (.cells #[.int .i64 0, .slice none 0 0] 77)
structure Two (w0 w : World) (s t : Int) (u v : Value) : Prop where
  a0 : w.cell? ⟨w0.heap.size, 0, none⟩ = some (.int .i64 s)
  a1 : w.cell? ⟨w0.heap.size, 1, none⟩ = some u
  b0 : w.cell? ⟨w0.heap.size + 1, 0, none⟩ = some (.int .i64 t)
  b1 : w.cell? ⟨w0.heap.size + 1, 1, none⟩ = some v
  r : Res (w0.heap.size + 1 + 1) w
  size : w0.heap.size + 3 ≤ w.heap.size
  below : Below w0.heap.size w0 w
theorem box3_two (w : World) (s t : Int) (u v : Value) : Two w (box3 w s t u v) s t u v := by
  have e : (box3 w s t u v).heap = ((w.heap.push (.cells #[.int .i64 s, u] 77)).push (.cells #[.int .i64 t, v] 77)).push (.cells #[.int .i64 0, .slice none 0 0] 77) := rfl
  have h0 : (box3 w s t u v).heap[w.heap.size]? = some (.cells #[.int .i64 s, u] 77 (0, 0)) := by
    rw [e, Array.getElem?_push, if_neg (by simp; omega), Array.getElem?_push, if_neg (by simp), Array.getElem?_push, if_pos rfl]
  have h1 : (box3 w s t u v).heap[w.heap.size + 1]? = some (.cells #[.int .i64 t, v] 77 (0, 0)) := by
    rw [e, Array.getElem?_push, if_neg (by simp), Array.getElem?_push, if_pos (by simp)]
  have h2 : (box3 w s t u v).heap[w.heap.size + 1 + 1]? = some (.cells #[.int .i64 0, .slice none 0 0] 77 (0, 0)) := by
    rw [e, Array.getElem?_push, if_pos (by simp)]
  exact ⟨by simp [World.cell?, h0], by simp [World.cell?, h0], by simp [World.cell?, h1], by simp [World.cell?, h1], ⟨⟨_, _, _, _, h2⟩⟩, by rw [e]; simp,
    (((Below.refl _ _).alloc (Nat.le_refl _) _).alloc (by simp) _).alloc (by simp; omega) _⟩
section
variable {w0 w w' : World} {s t : Int} {u v : Value}
theorem Two.next (h : Two w0 w s t u v) {B : Nat} (hb : Below B w w') (hB : w.heap.size ≤ B) : Two w0 w' s t u v :=
  ⟨(hb.cell (p := ⟨_, 0, none⟩) (by have := h.size; simp; omega)).trans h.a0, (hb.cell (p := ⟨_, 1, none⟩) (by have := h.size; simp; omega)).trans h.a1,
   (hb.cell (p := ⟨_, 0, none⟩) (by have := h.size; simp; omega)).trans h.b0, (hb.cell (p := ⟨_, 1, none⟩) (by have := h.size; simp; omega)).trans h.b1,
   h.r.next hb (by have := h.size; omega), Nat.le_trans h.size hb.size, h.below.trans (hb.mono (by have := h.size; omega))⟩
theorem Two.drew (h : Two w0 w s t u v) : Two w0 w.drew s t u v := ⟨h.a0, h.a1, h.b0, h.b1, h.r.drew, h.size, h.below.drew⟩
theorem Two.put (h : Two w0 w s t u v) (x : Int) (A : Option Addr) (l c : Nat) : Two w0 (setInt w (w0.heap.size + 1 + 1) x A l c) s t u v :=
  ⟨(setInt_other w (by omega) x A l c 0).trans h.a0, (setInt_other w (by omega) x A l c 1).trans h.a1, (setInt_other w (by omega) x A l c 0).trans h.b0, (setInt_other w (by omega) x A l c 1).trans h.b1,
   h.r.put x A l c, by rw [setInt_size]; exact h.size, setInt_below h.below (by omega) x A l c⟩
end

theorem sum_same {p q : Int} (h : sgn p = sgn q) : withSign (decide (wrd p < 0)) (p.natAbs + q.natAbs) = p + q := by
  have h1 := wrd_neg p
  unfold withSign sgn at *
  by_cases hp : p < 0
  · rw [decide_eq_true (h1.2 hp)]; simp [hp] at h ⊢; split at h <;> (try split at h) <;> omega
  · rw [decide_eq_false (fun e => hp (h1.1 e))]; simp [hp] at h ⊢; split at h <;> split at h <;> (try split at h) <;> omega
theorem sum_lt' {p q : Int} (h : ¬ sgn p = sgn q) (hlt : p.natAbs < q.natAbs) : withSign (decide (wrd q < 0)) (q.natAbs - p.natAbs) = p + q := by
  have h1 := wrd_neg q
  unfold withSign sgn at *
  by_cases hq : q < 0
  · rw [decide_eq_true (h1.2 hq)]; simp [hq] at h ⊢; omega
  · rw [decide_eq_false (fun e => hq (h1.1 e))]; simp [hq] at h ⊢; split at h <;> (try split at h) <;> (try split at h) <;> omega
theorem sum_ge' {p q : Int} (h : ¬ sgn p = sgn q) (hge : ¬ p.natAbs < q.natAbs) : withSign (decide (wrd p < 0)) (p.natAbs - q.natAbs) = p + q := by
  have h1 := wrd_neg p
  unfold withSign sgn at *
  by_cases hp : p < 0
  · rw [decide_eq_true (h1.2 hp)]; simp [hp] at h ⊢; omega
  · rw [decide_eq_false (fun e => hp (h1.1 e))]; simp [hp] at h ⊢; split at h <;> (try split at h) <;> (try split at h) <;> omega
theorem pow_double {x y k : Nat} (hx : x < M.B ^ k) (hy : y < M.B ^ k) : x + y < M.B ^ (k + 1) := by
  rw [M.pow_succ']
  have := Nat.mul_le_mul_left (M.B ^ k) M.B_two
  omega

set_option maxHeartbeats 1600000 in
set_option maxRecDepth 100000 in
theorem plus_long {w : World} {a b : Value} {p q : Int} {k : Nat} (ha : IsInt w a p) (hb : IsInt w b q) (hp : p.natAbs < M.B ^ k) (hq : q.natAbs < M.B ^ k) (hk : k ≤ 29000) (hl : ¬ (p.natAbs ≤ 4611686018427387903 ∧ q.natAbs ≤ 4611686018427387903)) :
    Calls Tryz.prog 169 #[a, b] w fun e w' => ∃ v, e = .returned v ∧ IsInt w' v (p + q) ∧ Below w.heap.size w w' := by
  have H := Lib.hid (And.intro ha (And.intro hb hl))
  obtain ⟨s, hs⟩ : ∃ s, s = wrd p := ⟨_, rfl⟩
  obtain ⟨t, ht⟩ : ∃ t, t = wrd q := ⟨_, rfl⟩
  obtain ⟨A, l, c, rfl, ha1⟩ := ha.shape_s hs
  obtain ⟨A', l', c', rfl, hb1⟩ := hb.shape_s ht
  obtain ⟨r, hr⟩ : ∃ r, r = wrd (p + q) := ⟨_, rfl⟩
  obtain ⟨sp, hsp⟩ : ∃ sp, sp = sgn p := ⟨_, rfl⟩
  obtain ⟨sq, hsq⟩ : ∃ sq, sq = sgn q := ⟨_, rfl⟩
  have HS := Lib.hid (And.intro hs (And.intro ht (And.intro hr (And.intro hsp hsq))))
  clear ha hb ha1 hb1 hs ht hl hr hsp hsq
  by_cases hps : p.natAbs ≤ 4611686018427387903
  focus
    have hqs : ¬ q.natAbs ≤ 4611686018427387903 := fun h => H.out.2.2 ⟨hps, h⟩
    have HPQ := Lib.hid (And.intro hps hqs)
    clear hps hqs
    go_enter Tryz.func169, Tryz.ntmps169
    go_wp2_with fail
    change Calls _ _ _ (box3 w s t (.slice A l c) (.slice A' l' c')) _
    have h0 := box3_two w s t (.slice A l c) (.slice A' l' c')
    generalize box3 w s t (.slice A l c) (.slice A' l' c') = W0 at *
    refine (short_yes (H.out.1.below h0.below (Nat.le_refl _)) HPQ.out.1).mono ?_
    rintro e W1 ⟨rfl, hb1⟩
    have h1 := h0.next hb1 (Nat.le_refl _)
    have b0 := h1.b0
    have b1 := h1.b1
    clear h0 hb1
    go_wp2_with fail
    refine (short_no (H.out.2.1.below h1.below (Nat.le_refl _)) HPQ.out.2).mono ?_
    rintro e W2 ⟨rfl, hb1⟩
    have hB := h1.next hb1 (Nat.le_refl _)
    clear b0 b1 h1 hb1
  rotate_left
  focus
    have HPQ := Lib.hid hps
    clear hps
    go_enter Tryz.func169, Tryz.ntmps169
    go_wp2_with fail
    change Calls _ _ _ (box3 w s t (.slice A l c) (.slice A' l' c')) _
    have h0 := box3_two w s t (.slice A l c) (.slice A' l' c')
    generalize box3 w s t (.slice A l c) (.slice A' l' c') = W0 at *
    refine (short_no (H.out.1.below h0.below (Nat.le_refl _)) HPQ.out).mono ?_
    rintro e W2 ⟨rfl, hb1⟩
    have hB := h0.next hb1 (Nat.le_refl _)
    clear h0 hb1
  all_goals
    have a0 := hB.a0
    have a1 := hB.a1
    have b0 := hB.b0
    have b1 := hB.b1
    go_wp2_with fail
    have hD := hB.drew
    go_region_held3 (fun w' => w'.cell? ⟨w.heap.size, 0, none⟩ = some (.int .i64 s) ∧ w'.cell? ⟨w.heap.size, 1, none⟩ = some (.slice A l c) ∧ w'.cell? ⟨w.heap.size + 1, 0, none⟩ = some (.int .i64 t) ∧ w'.cell? ⟨w.heap.size + 1, 1, none⟩ = some (.slice A' l' c') ∧ Two w w' s t (.slice A l c) (.slice A' l' c'))
      (first | exact ⟨q2.a0, q2.a1, q2.b0, q2.b1, q2⟩ | exact ⟨q1.a0, q1.a1, q1.b0, q1.b1, q1⟩ | exact ⟨hD.a0, hD.a1, hD.b0, hD.b1, hD⟩)
      (first
        | (go_at_call 119; go_split_ands; ((with_reducible refine (limbs_any (H.out.1.below hD.below (Nat.le_refl _))).mono ?_); rintro e w1 ⟨x, rfl, hx, hb1⟩; obtain ⟨X, lx, cx, rfl⟩ := hx.shape; have q1 : Two w w1 s t (.slice A l c) (.slice A' l' c') := Two.next hD hb1 (Nat.le_refl _)))
        | (go_at_call 119; go_split_ands; ((with_reducible refine (limbs_any (H.out.2.1.below q1.below (Nat.le_refl _))).mono ?_); rintro e w2 ⟨y, rfl, hy, hb2⟩; obtain ⟨Y, ly, cy, rfl⟩ := hy.shape; have q2 : Two w w2 s t (.slice A l c) (.slice A' l' c') := Two.next q1 hb2 (Nat.le_refl _))))
    have HX := Lib.hid (And.intro (hx.below hb2 (Nat.le_refl _)) hy)
    have hD2 := q2.drew
    clear hx hy hb1 hb2 q1 hD hB a0 a1 b0 b1
    have a0 := q2.a0
    have a1 := q2.a1
    have b0 := q2.b0
    have b1 := q2.b1
    go_wp2_with fail
    go_region_held3 (fun w' => w'.cell? ⟨w.heap.size, 0, none⟩ = some (.int .i64 s) ∧ w'.cell? ⟨w.heap.size, 1, none⟩ = some (.slice A l c) ∧ w'.cell? ⟨w.heap.size + 1, 0, none⟩ = some (.int .i64 t) ∧ w'.cell? ⟨w.heap.size + 1, 1, none⟩ = some (.slice A' l' c') ∧ Two w w' s t (.slice A l c) (.slice A' l' c'))
      (first | exact ⟨q4.a0, q4.a1, q4.b0, q4.b1, q4⟩ | exact ⟨q3.a0, q3.a1, q3.b0, q3.b1, q3⟩ | exact ⟨hD2.a0, hD2.a1, hD2.b0, hD2.b1, hD2⟩)
      (first
        | (go_at_call 111; go_split_ands; ((with_reducible refine (sign_any (H.out.1.below hD2.below (Nat.le_refl _))).mono ?_); rw [← HS.out.2.2.2.1]; rintro e w3 ⟨rfl, hb3⟩; have q3 : Two w w3 s t (.slice A l c) (.slice A' l' c') := Two.next hD2 hb3 (Nat.le_refl _)))
        | (go_at_call 111; go_split_ands; ((with_reducible refine (sign_any (H.out.2.1.below q3.below (Nat.le_refl _))).mono ?_); rw [← HS.out.2.2.2.2]; rintro e w4 ⟨rfl, hb4⟩; have q4 : Two w w4 s t (.slice A l c) (.slice A' l' c') := Two.next q3 hb4 (Nat.le_refl _))))
    have HY := Lib.hid (And.intro ((HX.out.1.drew.below hb3 (Nat.le_refl _)).below hb4 (Nat.le_refl _)) ((HX.out.2.drew.below hb3 (Nat.le_refl _)).below hb4 (Nat.le_refl _)))
    have hD4 := q4.drew
    clear HX hb3 hb4 q3 q2 hD2 a0 a1 b0 b1
    have a0 := q4.a0
    have a1 := q4.a1
    have b0 := q4.b0
    have b1 := q4.b1
    by_cases hsame : sp = sq
    · have hq1 : (sp == sq) = true := beq_iff_eq.2 hsame
      have HSUM := Lib.hid (show withSign (decide (s < 0)) (p.natAbs + q.natAbs) = p + q by rw [HS.out.1]; exact sum_same (by rw [← HS.out.2.2.2.1, ← HS.out.2.2.2.2]; exact hsame))
      clear hsame
      go_wp2_with fail
      go_region_held3 (fun w' => w'.cell? ⟨w.heap.size, 0, none⟩ = some (.int .i64 s) ∧ w'.cell? ⟨w.heap.size, 1, none⟩ = some (.slice A l c) ∧ w'.cell? ⟨w.heap.size + 1, 0, none⟩ = some (.int .i64 t) ∧ w'.cell? ⟨w.heap.size + 1, 1, none⟩ = some (.slice A' l' c') ∧ Two w w' s t (.slice A l c) (.slice A' l' c'))
        (first | exact ⟨q7.a0, q7.a1, q7.b0, q7.b1, q7⟩ | exact ⟨q6.a0, q6.a1, q6.b0, q6.b1, q6⟩ | exact ⟨q5.a0, q5.a1, q5.b0, q5.b1, q5⟩ | exact ⟨hD4.a0, hD4.a1, hD4.b0, hD4.b1, hD4⟩)
        (first
          | (go_at_call 203; go_split_ands; ((with_reducible refine (plus_nat (k := k) HY.out.1.drew HY.out.2.drew hp hq (by omega)).mono ?_); rintro e w5 ⟨u, rfl, hu, hb5⟩; have q5 : Two w w5 s t (.slice A l c) (.slice A' l' c') := Two.next hD4 hb5 (Nat.le_refl _); have HU := Lib.hid hu; clear hu))
          | (go_at_call 114; go_split_ands; ((with_reducible refine (signed_any (k := k + 1) (decide (s < 0)) HU.out (pow_double hp hq) (by omega)).mono ?_); rw [HSUM.out]; rintro e w6 ⟨v, rfl, hv, hb6⟩; obtain ⟨X6, l6, c6, rfl, hv6⟩ := hv.shape_s HS.out.2.2.1; have q6 : Two w w6 s t (.slice A l c) (.slice A' l' c') := Two.next q5 hb6 (Nat.le_refl _); have HV := Lib.hid hv6; clear hv hv6; obtain ⟨v0, c0⟩ := q6.r.c0; obtain ⟨v1, c1⟩ := q6.r.c1; have f0 := q6.r.f0; have f1 := q6.r.f1; have q7 := q6.put r X6 l6 c6)))
      go_wp2
      have HF := Lib.hid (And.intro (q6.r.put0 r X6 l6 c6) (And.intro (q6.r.put1 r X6 l6 c6) (And.intro (q6.r.size HV.out r X6 l6 c6) q7.below)))
      rw [show (w6.setCell ⟨w.heap.size + 1 + 1, 0, none⟩ (.int .i64 r)).setCell ⟨w.heap.size + 1 + 1, 1, none⟩ (.slice X6 l6 c6) = setInt w6 (w.heap.size + 1 + 1) r X6 l6 c6 from rfl]
      clear q7
      obtain ⟨z0, z1, z2, z3⟩ := HF.out
      generalize setInt w6 (w.heap.size + 1 + 1) r X6 l6 c6 = W3 at *
      exact bodyPost_ret (v := .agg #[.int .i64 r, .slice X6 l6 c6]) (by simp [results, Tryz.results169, go_sem, z0, z1]) rfl ⟨_, rfl, ⟨X6, l6, c6, by rw [HS.out.2.2.1], z2⟩, z3⟩
    · have hq1 : (sp == sq) = false := beq_eq_false_iff_ne.2 hsame
      have HN := Lib.hid (show ¬ sgn p = sgn q by rw [← HS.out.2.2.2.1, ← HS.out.2.2.2.2]; exact hsame)
      clear hsame
      by_cases hlt : p.natAbs < q.natAbs
      · have hcm := cmp_lt hlt
        have HSUM := Lib.hid (show withSign (decide (t < 0)) (q.natAbs - p.natAbs) = p + q by rw [HS.out.2.1]; exact sum_lt' HN.out hlt)
        have HLT := Lib.hid (And.intro (Nat.le_of_lt hlt) (show q.natAbs - p.natAbs < M.B ^ (k + 1) from Nat.lt_of_le_of_lt (Nat.sub_le _ _) (Nat.lt_of_lt_of_le hq (M.pow_mono (Nat.le_succ k)))))
        clear hlt
        go_wp2_with fail
        refine (compare_nat (k := k) HY.out.1 HY.out.2 hp hq (by omega)).mono ?_
        rintro e wc ⟨rfl, hdr⟩
        have hBc := q4.next (hdr.below w4.heap.size) (Nat.le_refl _)
        have HYc := Lib.hid (And.intro (HY.out.1.drawn hdr) (HY.out.2.drawn hdr))
        have hDc := hBc.drew
        have a0 := hBc.a0
        have a1 := hBc.a1
        have b0 := hBc.b0
        have b1 := hBc.b1
        clear hdr hD4 HY q4
        go_wp2_with fail
        go_region_held3 (fun w' => w'.cell? ⟨w.heap.size, 0, none⟩ = some (.int .i64 s) ∧ w'.cell? ⟨w.heap.size, 1, none⟩ = some (.slice A l c) ∧ w'.cell? ⟨w.heap.size + 1, 0, none⟩ = some (.int .i64 t) ∧ w'.cell? ⟨w.heap.size + 1, 1, none⟩ = some (.slice A' l' c') ∧ Two w w' s t (.slice A l c) (.slice A' l' c'))
          (first | exact ⟨q7.a0, q7.a1, q7.b0, q7.b1, q7⟩ | exact ⟨q6.a0, q6.a1, q6.b0, q6.b1, q6⟩ | exact ⟨q5.a0, q5.a1, q5.b0, q5.b1, q5⟩ | exact ⟨hDc.a0, hDc.a1, hDc.b0, hDc.b1, hDc⟩)
          (first
            | (go_at_call 204; go_split_ands; ((with_reducible refine (minus_nat (k := k) HYc.out.2.drew HYc.out.1.drew hq HLT.out.1 (by omega)).mono ?_); rintro e w5 ⟨u, rfl, hu, hb5⟩; have q5 : Two w w5 s t (.slice A l c) (.slice A' l' c') := Two.next hDc hb5 (Nat.le_refl _); have HU := Lib.hid hu; clear hu))
            | (go_at_call 114; go_split_ands; ((with_reducible refine (signed_any (k := k + 1) (decide (t < 0)) HU.out HLT.out.2 (by omega)).mono ?_); rw [HSUM.out]; rintro e w6 ⟨v, rfl, hv, hb6⟩; obtain ⟨X6, l6, c6, rfl, hv6⟩ := hv.shape_s HS.out.2.2.1; have q6 : Two w w6 s t (.slice A l c) (.slice A' l' c') := Two.next q5 hb6 (Nat.le_refl _); have HV := Lib.hid hv6; clear hv hv6; obtain ⟨v0, c0⟩ := q6.r.c0; obtain ⟨v1, c1⟩ := q6.r.c1; have f0 := q6.r.f0; have f1 := q6.r.f1; have q7 := q6.put r X6 l6 c6)))
        go_wp2
        have HF := Lib.hid (And.intro (q6.r.put0 r X6 l6 c6) (And.intro (q6.r.put1 r X6 l6 c6) (And.intro (q6.r.size HV.out r X6 l6 c6) q7.below)))
        rw [show (w6.setCell ⟨w.heap.size + 1 + 1, 0, none⟩ (.int .i64 r)).setCell ⟨w.heap.size + 1 + 1, 1, none⟩ (.slice X6 l6 c6) = setInt w6 (w.heap.size + 1 + 1) r X6 l6 c6 from rfl]
        clear q7
        obtain ⟨z0, z1, z2, z3⟩ := HF.out
        generalize setInt w6 (w.heap.size + 1 + 1) r X6 l6 c6 = W3 at *
        exact bodyPost_ret (v := .agg #[.int .i64 r, .slice X6 l6 c6]) (by simp [results, Tryz.results169, go_sem, z0, z1]) rfl ⟨_, rfl, ⟨X6, l6, c6, by rw [HS.out.2.2.1], z2⟩, z3⟩
      · have hcm := cmp_ge (show q.natAbs ≤ p.natAbs by omega)
        have HSUM := Lib.hid (show withSign (decide (s < 0)) (p.natAbs - q.natAbs) = p + q by rw [HS.out.1]; exact sum_ge' HN.out hlt)
        have HLT := Lib.hid (And.intro (show q.natAbs ≤ p.natAbs by omega) (show p.natAbs - q.natAbs < M.B ^ (k + 1) from Nat.lt_of_le_of_lt (Nat.sub_le _ _) (Nat.lt_of_lt_of_le hp (M.pow_mono (Nat.le_succ k)))))
        clear hlt
        go_wp2_with fail
        refine (compare_nat (k := k) HY.out.1 HY.out.2 hp hq (by omega)).mono ?_
        rintro e wc ⟨rfl, hdr⟩
        have hBc := q4.next (hdr.below w4.heap.size) (Nat.le_refl _)
        have HYc := Lib.hid (And.intro (HY.out.1.drawn hdr) (HY.out.2.drawn hdr))
        have hDc := hBc.drew
        have a0 := hBc.a0
        have a1 := hBc.a1
        have b0 := hBc.b0
        have b1 := hBc.b1
        clear hdr hD4 HY q4
        go_wp2_with fail
        go_region_held3 (fun w' => w'.cell? ⟨w.heap.size, 0, none⟩ = some (.int .i64 s) ∧ w'.cell? ⟨w.heap.size, 1, none⟩ = some (.slice A l c) ∧ w'.cell? ⟨w.heap.size + 1, 0, none⟩ = some (.int .i64 t) ∧ w'.cell? ⟨w.heap.size + 1, 1, none⟩ = some (.slice A' l' c') ∧ Two w w' s t (.slice A l c) (.slice A' l' c'))
          (first | exact ⟨q7.a0, q7.a1, q7.b0, q7.b1, q7⟩ | exact ⟨q6.a0, q6.a1, q6.b0, q6.b1, q6⟩ | exact ⟨q5.a0, q5.a1, q5.b0, q5.b1, q5⟩ | exact ⟨hDc.a0, hDc.a1, hDc.b0, hDc.b1, hDc⟩)
          (first
            | (go_at_call 204; go_split_ands; ((with_reducible refine (minus_nat (k := k) HYc.out.1.drew HYc.out.2.drew hp HLT.out.1 (by omega)).mono ?_); rintro e w5 ⟨u, rfl, hu, hb5⟩; have q5 : Two w w5 s t (.slice A l c) (.slice A' l' c') := Two.next hDc hb5 (Nat.le_refl _); have HU := Lib.hid hu; clear hu))
            | (go_at_call 114; go_split_ands; ((with_reducible refine (signed_any (k := k + 1) (decide (s < 0)) HU.out HLT.out.2 (by omega)).mono ?_); rw [HSUM.out]; rintro e w6 ⟨v, rfl, hv, hb6⟩; obtain ⟨X6, l6, c6, rfl, hv6⟩ := hv.shape_s HS.out.2.2.1; have q6 : Two w w6 s t (.slice A l c) (.slice A' l' c') := Two.next q5 hb6 (Nat.le_refl _); have HV := Lib.hid hv6; clear hv hv6; obtain ⟨v0, c0⟩ := q6.r.c0; obtain ⟨v1, c1⟩ := q6.r.c1; have f0 := q6.r.f0; have f1 := q6.r.f1; have q7 := q6.put r X6 l6 c6)))
        go_wp2
        have HF := Lib.hid (And.intro (q6.r.put0 r X6 l6 c6) (And.intro (q6.r.put1 r X6 l6 c6) (And.intro (q6.r.size HV.out r X6 l6 c6) q7.below)))
        rw [show (w6.setCell ⟨w.heap.size + 1 + 1, 0, none⟩ (.int .i64 r)).setCell ⟨w.heap.size + 1 + 1, 1, none⟩ (.slice X6 l6 c6) = setInt w6 (w.heap.size + 1 + 1) r X6 l6 c6 from rfl]
        clear q7
        obtain ⟨z0, z1, z2, z3⟩ := HF.out
        generalize setInt w6 (w.heap.size + 1 + 1) r X6 l6 c6 = W3 at *
        exact bodyPost_ret (v := .agg #[.int .i64 r, .slice X6 l6 c6]) (by simp [results, Tryz.results169, go_sem, z0, z1]) rfl ⟨_, rfl, ⟨X6, l6, c6, by rw [HS.out.2.2.1], z2⟩, z3⟩

set_option maxHeartbeats 800000 in
theorem plus_short {w : World} {a b : Value} {p q : Int} (ha : IsInt w a p) (hb : IsInt w b q) (hp : p.natAbs ≤ 4611686018427387903) (hq : q.natAbs ≤ 4611686018427387903) :
    Calls Tryz.prog 169 #[a, b] w fun e w' => ∃ v, e = .returned v ∧ IsInt w' v (p + q) ∧ Below w.heap.size w w' := by
  have H := Lib.hid (And.intro ha (And.intro hb (And.intro hp hq)))
  obtain ⟨A, l, c, rfl, ha1⟩ := ha.shape_s (wrd_short hp).symm
  obtain ⟨A', l', c', rfl, hb1⟩ := hb.shape_s (wrd_short hq).symm
  obtain ⟨r, hr⟩ : ∃ r, r = wrd (p + q) := ⟨_, rfl⟩
  have HR := Lib.hid hr
  have p1 : -4611686018427387903 ≤ p := by omega
  have p2 : p ≤ 4611686018427387903 := by omega
  have q1 : -4611686018427387903 ≤ q := by omega
  have q2 : q ≤ 4611686018427387903 := by omega
  clear ha hb ha1 hb1 hp hq hr
  go_enter Tryz.func169, Tryz.ntmps169
  go_wp2_with fail
  change Calls _ _ _ (box3 w p q (.slice A l c) (.slice A' l' c')) _
  have h0 := box3_two w p q (.slice A l c) (.slice A' l' c')
  generalize box3 w p q (.slice A l c) (.slice A' l' c') = W0 at *
  refine (short_yes (H.out.1.below h0.below (Nat.le_refl _)) H.out.2.2.1).mono ?_
  rintro e W1 ⟨rfl, hb1⟩
  have h1 := h0.next hb1 (Nat.le_refl _)
  have b0 := h1.b0
  have b1 := h1.b1
  clear h0 hb1
  go_wp2_with fail
  refine (short_yes (H.out.2.1.below h1.below (Nat.le_refl _)) H.out.2.2.2).mono ?_
  rintro e W2 ⟨rfl, hb1⟩
  have h2 := h1.next hb1 (Nat.le_refl _)
  have H2 := Lib.hid h2
  have a0 := h2.a0
  have b0 := h2.b0
  clear b1 h1 hb1 h2
  go_wp2_with fail
  refine (make_any (w := W2) (z := p + q) (by omega) (by omega)).mono ?_
  rintro e w6 ⟨v, rfl, hv, hb6⟩
  obtain ⟨X6, l6, c6, rfl, hv6⟩ := hv.shape_s HR.out
  have q6 := H2.out.next hb6 (Nat.le_refl _)
  obtain ⟨v0, c0⟩ := q6.r.c0
  obtain ⟨v1, c1⟩ := q6.r.c1
  have f0 := q6.r.f0
  have f1 := q6.r.f1
  have HF := Lib.hid (And.intro (q6.r.put0 r X6 l6 c6) (And.intro (q6.r.put1 r X6 l6 c6) (And.intro (q6.r.size hv6 r X6 l6 c6) (q6.put r X6 l6 c6).below)))
  clear hv hv6 q6 hb6
  go_wp2
  rw [show (w6.setCell ⟨w.heap.size + 1 + 1, 0, none⟩ (.int .i64 r)).setCell ⟨w.heap.size + 1 + 1, 1, none⟩ (.slice X6 l6 c6) = setInt w6 (w.heap.size + 1 + 1) r X6 l6 c6 from rfl]
  obtain ⟨z0, z1, z2, z3⟩ := HF.out
  generalize setInt w6 (w.heap.size + 1 + 1) r X6 l6 c6 = W3 at *
  exact bodyPost_ret (v := .agg #[.int .i64 r, .slice X6 l6 c6]) (by simp [results, Tryz.results169, go_sem, z0, z1]) rfl ⟨_, rfl, ⟨X6, l6, c6, by rw [HR.out], z2⟩, z3⟩
theorem plus_int {w : World} {a b : Value} {p q : Int} {k : Nat} (ha : IsInt w a p) (hb : IsInt w b q) (hp : p.natAbs < M.B ^ k) (hq : q.natAbs < M.B ^ k) (hk : k ≤ 29000) :
    Calls Tryz.prog 169 #[a, b] w fun e w' => ∃ v, e = .returned v ∧ IsInt w' v (p + q) ∧ Below w.heap.size w w' := by
  by_cases h : p.natAbs ≤ 4611686018427387903 ∧ q.natAbs ≤ 4611686018427387903
  · exact plus_short ha hb h.1 h.2
  · exact plus_long ha hb hp hq hk h
end Go.Proofs.YtjghgbfagjhdgaaGreatDoor
namespace Go.Proofs.YtjghgbfagjhdgaaGreatDoor
open Go Go.RowKit

set_option maxHeartbeats 1600000 in
set_option maxRecDepth 100000 in
theorem minus_int {w : World} {a b : Value} {p q : Int} {k : Nat} (ha : IsInt w a p) (hb : IsInt w b q) (hp : p.natAbs < M.B ^ k) (hq : q.natAbs < M.B ^ k) (hk : k ≤ 29000) :
    Calls Tryz.prog 168 #[a, b] w fun e w' => ∃ v, e = .returned v ∧ IsInt w' v (p - q) ∧ Below w.heap.size w w' := by
  have hq' : (-q).natAbs < M.B ^ k := by rw [show (-q).natAbs = q.natAbs by omega]; exact hq
  obtain ⟨z, hz⟩ : ∃ z, z = -q := ⟨_, rfl⟩
  rw [← hz] at hq'
  have hpq : p - q = p + z := by omega
  rw [hpq]
  have HZ := Lib.hid hz
  clear hz hpq hq
  have H := Lib.hid (And.intro ha hb)
  obtain ⟨s, hs⟩ : ∃ s, s = wrd p := ⟨_, rfl⟩
  obtain ⟨t, ht⟩ : ∃ t, t = wrd q := ⟨_, rfl⟩
  obtain ⟨A, l, c, rfl, ha1⟩ := ha.shape_s hs
  obtain ⟨A', l', c', rfl, hb1⟩ := hb.shape_s ht
  obtain ⟨r, hr⟩ : ∃ r, r = wrd (p + z) := ⟨_, rfl⟩
  have HRR := Lib.hid hr
  have HS := Lib.hid (And.intro hs ht)
  clear ha hb ha1 hb1 hs ht hr
  go_enter Tryz.func168, Tryz.ntmps168
  go_wp2_with fail
  change Code.wp _ _ _ _ (box3 w s t (.slice A l c) (.slice A' l' c'))
  have hB := box3_two w s t (.slice A l c) (.slice A' l' c')
  generalize box3 w s t (.slice A l c) (.slice A' l' c') = W0 at *
  have hD := hB.drew
  go_region_held3 (fun w' => w'.cell? ⟨w.heap.size, 0, none⟩ = some (.int .i64 s) ∧ w'.cell? ⟨w.heap.size, 1, none⟩ = some (.slice A l c) ∧ w'.cell? ⟨w.heap.size + 1, 0, none⟩ = some (.int .i64 t) ∧ w'.cell? ⟨w.heap.size + 1, 1, none⟩ = some (.slice A' l' c') ∧ Two w w' s t (.slice A l c) (.slice A' l' c'))
    (first | exact ⟨q7.a0, q7.a1, q7.b0, q7.b1, q7⟩ | exact ⟨q2.a0, q2.a1, q2.b0, q2.b1, q2⟩ | exact ⟨q1.a0, q1.a1, q1.b0, q1.b1, q1⟩ | exact ⟨hD.a0, hD.a1, hD.b0, hD.b1, hD⟩)
    (first
      | (go_at_call 48; go_split_ands; ((with_reducible refine (negated_any (H.out.2.below hD.below (Nat.le_refl _))).mono ?_); rintro e w1 ⟨x, rfl, hx, hb1⟩; rw [← HZ.out] at hx; have HX := Lib.hid hx; obtain ⟨X, lx, cx, rfl, hx1⟩ := hx; clear hx1; have q1 : Two w w1 s t (.slice A l c) (.slice A' l' c') := Two.next hD hb1 (Nat.le_refl _)))
      | (go_at_call 169; go_split_ands; ((with_reducible refine (plus_int (H.out.1.below q1.below (Nat.le_refl _)) HX.out hp hq' hk).mono ?_); rintro e w2 ⟨v, rfl, hv, hb2⟩; have q2 : Two w w2 s t (.slice A l c) (.slice A' l' c') := Two.next q1 hb2 (Nat.le_refl _); obtain ⟨X6, l6, c6, rfl, hv6⟩ := hv.shape_s HRR.out; have HV := Lib.hid hv6; clear hv hv6; obtain ⟨v0, c0⟩ := q2.r.c0; obtain ⟨v1, c1⟩ := q2.r.c1; have f0 := q2.r.f0; have f1 := q2.r.f1; have q7 := q2.put r X6 l6 c6)))
  go_wp2
  have HF := Lib.hid (And.intro (q2.r.put0 r X6 l6 c6) (And.intro (q2.r.put1 r X6 l6 c6) (And.intro (q2.r.size HV.out r X6 l6 c6) q7.below)))
  rw [show (w2.setCell ⟨w.heap.size + 1 + 1, 0, none⟩ (.int .i64 r)).setCell ⟨w.heap.size + 1 + 1, 1, none⟩ (.slice X6 l6 c6) = setInt w2 (w.heap.size + 1 + 1) r X6 l6 c6 from rfl]
  clear q7
  obtain ⟨z0, z1, z2, z3⟩ := HF.out
  generalize setInt w2 (w.heap.size + 1 + 1) r X6 l6 c6 = W3 at *
  exact bodyPost_ret (v := .agg #[.int .i64 r, .slice X6 l6 c6]) (by simp [results, Tryz.results168, go_sem, z0, z1]) rfl ⟨_, rfl, ⟨X6, l6, c6, by rw [HRR.out], z2⟩, z3⟩

theorem sgn_ne {p q : Int} : withSign (sgn p != sgn q) (p.natAbs * q.natAbs) = p * q := by
  by_cases h0 : p = 0 ∨ q = 0
  · have h1 : p.natAbs * q.natAbs = 0 := by rcases h0 with rfl | rfl <;> simp
    have h2 : p * q = 0 := by rcases h0 with rfl | rfl <;> simp
    rw [h1, h2]; unfold withSign; split <;> rfl
  · have hp0 : p ≠ 0 := fun e => h0 (.inl e)
    have hq0 : q ≠ 0 := fun e => h0 (.inr e)
    rw [← Int.natAbs_mul]
    unfold withSign sgn
    by_cases h1 : p < 0 <;> by_cases h2 : q < 0
    · have := Int.mul_pos_of_neg_of_neg h1 h2
      simp [h1, h2]; omega
    · have := Int.mul_neg_of_neg_of_pos h1 (show 0 < q by omega)
      simp [h1, h2, show 0 < q by omega]; omega
    · have := Int.mul_neg_of_pos_of_neg (show 0 < p by omega) h2
      simp [h1, h2, show 0 < p by omega]; omega
    · have := Int.mul_pos (show 0 < p by omega) (show 0 < q by omega)
      simp [h1, h2, show 0 < p by omega, show 0 < q by omega]; omega
theorem prod_lt {x y k : Nat} (hx : x < M.B ^ k) (hy : y < M.B ^ k) : x * y < M.B ^ (k + k) := by
  rw [Nat.pow_add]
  exact Nat.mul_lt_mul'' hx hy
end Go.Proofs.YtjghgbfagjhdgaaGreatDoor
