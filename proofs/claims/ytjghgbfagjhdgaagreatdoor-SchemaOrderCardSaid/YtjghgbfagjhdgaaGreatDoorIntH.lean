/- Compare of package wide's integers. -/
import Derived.Test.YtjghgbfagjhdgaaGreatDoorPlz
import Derived.Test.YtjghgbfagjhdgaaGreatDoorIntC
import Derived.Test.YtjghgbfagjhdgaaGreatDoorRelW
namespace Go.Proofs.YtjghgbfagjhdgaaGreatDoor
open Go Go.RowKit

theorem IsInt.word {w : World} {s : Int} {u : Value} {z : Int} (h : IsInt w (.agg #[.int .i64 s, u]) z) : s = wrd z := by
  obtain ⟨A, l, c, e, _⟩ := h
  injection e with e
  simp at e
  exact e.1
theorem cmp_sgn_ne {p q : Int} (h : sgn p ≠ sgn q) : cmpI (wrd p) (wrd q) = cmpI p q := by
  have h1 := wrd_neg p
  have h2 := wrd_neg q
  have h3 := wrd_zero p
  have h4 := wrd_zero q
  have key : (wrd p < wrd q ↔ p < q) ∧ (wrd q < wrd p ↔ q < p) := by
    unfold sgn at h
    by_cases a : p < 0 <;> by_cases b : q < 0 <;> by_cases c : p = 0 <;> by_cases d : q = 0 <;> simp [a, b, c, d] at h <;> (try omega)
    all_goals (have := h1.1; have := h2.1; constructor <;> constructor <;> intro e <;> omega)
  unfold cmpI
  simp only [key.1, key.2]
theorem cmp_mag {p q : Int} (h : sgn p = sgn q) : sgn p * cmpI p.natAbs q.natAbs = cmpI p q := by
  unfold sgn at h ⊢
  unfold cmpI
  by_cases a : p < 0 <;> by_cases b : q < 0 <;> by_cases c : 0 < p <;> by_cases d : 0 < q <;> simp [a, b, c, d] at h ⊢ <;> (try omega)
  all_goals (split <;> split <;> (try split) <;> (try split) <;> omega)
set_option linter.unusedSimpArgs false in
set_option maxHeartbeats 8000000 in
set_option maxRecDepth 100000 in
theorem compare_int {w : World} {a b : Value} {p q : Int} {k : Nat} (ha : IsInt w a p) (hb : IsInt w b q) (hp : p.natAbs < M.B ^ k) (hq : q.natAbs < M.B ^ k) (hk : k ≤ 29000) :
    Calls Tryz.prog 195 #[a, b] w fun e w' => e = .returned (.int .i64 (cmpI p q)) ∧ Below w.heap.size w w' := by
  obtain ⟨s, hs⟩ : ∃ s, s = wrd p := ⟨_, rfl⟩
  obtain ⟨t, ht⟩ : ∃ t, t = wrd q := ⟨_, rfl⟩
  obtain ⟨A, l, c, rfl, _⟩ := ha.shape_s hs
  obtain ⟨A', l', c', rfl, _⟩ := hb.shape_s ht
  obtain ⟨r, hr⟩ : ∃ r, r = cmpI p q := ⟨_, rfl⟩
  obtain ⟨sp, hsp⟩ : ∃ sp, sp = sgn p := ⟨_, rfl⟩
  obtain ⟨sq, hsq⟩ : ∃ sq, sq = sgn q := ⟨_, rfl⟩
  obtain ⟨W, hW⟩ : ∃ W : Bool, W = (decide (p.natAbs ≤ 4611686018427387903 ∧ q.natAbs ≤ 4611686018427387903) || (sp != sq)) := ⟨_, rfl⟩
  have H := Lib.hid (And.intro ha (And.intro hb (And.intro hp (And.intro hq (And.intro hs (And.intro ht (And.intro hr (And.intro hsp (And.intro hsq hW)))))))))
  rw [← hr]
  clear ha hb hp hq hs ht hr hsp hsq hW
  go_enter Tryz.func195, Tryz.ntmps195
  go_upto_region 0 with fail
  go_cut [2, 3] from 5 (fun s2 s3 wx => ∃ g2 g3 : Nat, s2 = .pointer (some ⟨g2, 0, none⟩) ∧ s3 = .pointer (some ⟨g3, 0, none⟩) ∧ Pls w [(g2, .int p), (g3, .int q)] wx)
  case first =>
    go_wp2_with fail
    go_meet
    exact ⟨_, _, rfl, rfl, ((Pls.start w).boxInt H.out.1 rfl).boxInt (H.out.2.1.below ((Below.refl _ _).alloc (Nat.le_refl _) _) (Nat.le_refl _)) (by simp)⟩
  obtain ⟨g2, g3, rfl, rfl, hX⟩ := hcut
  go_upto_region 1 with fail
  go_cut [17] from 5 (fun s17 wx => s17 = .bool W ∧ Pls w [(g2, .int p), (g3, .int q)] wx)
  case first =>
    by_cases hp : p.natAbs ≤ 4611686018427387903
    · by_cases hq : q.natAbs ≤ 4611686018427387903
      · have HWW := Lib.hid (show W = true by rw [H.out.2.2.2.2.2.2.2.2.2]; simp [hp, hq])
        refine RelG.region_rest 13 [0, 1, 2, 3, 4, 5, 6, 7, 8, 9, 10, 11, 12] _ rfl rfl (R := [fun v w => IsInt w v (p), fun v _ => v = .bool true, fun v _ => v = .bool true, fun v w => IsInt w v (q), fun v _ => v = .bool true, fun v _ => v = .bool true, fun v _ => v = .bool true, fun _ _ => True, fun _ _ => True, fun _ _ => True, fun _ _ => True, fun _ _ => True, fun v _ => v = .bool true])
          (E := RE w [(g2, .int p), (g3, .int q)] wc.heap.size 1000 1001) (T := fun w w' => Below w.heap.size w w') (by kernel_rfl) (by kernel_rfl) (by kernel_rfl) (RE.start hX 1000 1001) ?_ ?_ ?_
        · intro D vals i v w1 w2 hi hE hT hv
          match i, hi with
          | 0, _ | 3, _ => exact IsInt.below hv hT (Nat.le_refl _)
          | 1, _ | 2, _ | 4, _ | 5, _ | 6, _ | 7, _ | 8, _ | 9, _ | 10, _ | 11, _ | 12, _ => exact hv
          | i + 13, hi => exact absurd hi (by omega)
        · refine RelG.Steps.cons (L := []) rfl (by kernel_rfl) ?_ ?_
          · intro vals w' D hE hF hR K hK
            obtain ⟨s, A, l, c, c0, c1, hi⟩ := hE.1.int 0 rfl
            simp only [Rel.putL, Rel.dst, z1, z2, z3, z4, Act.put, z5, z6, z7] at hK ⊢
            refine RelG.yes rfl ?_
            go_simp
            exact hK _ _ hi (Below.refl _ _) (hE.same (by decide) (by decide))
          refine RelG.Steps.cons (L := [0]) rfl (by kernel_rfl) ?_ ?_
          · intro vals w' D hE hF hR K hK
            have r0 := hR.1
            simp only [Rel.putL, Rel.dst, z1, z2, z3, z4, Act.put, z5, z6, z7] at hK ⊢
            refine RelG.yes rfl ?_
            go_simp
            go_at_call 117
            refine (short_yes r0 hp).mono ?_
            rintro e w2 ⟨rfl, hb⟩
            exact hK _ _ rfl hb (hE.step hb (by decide) (by decide))
          refine RelG.Steps.cons (L := [1]) rfl (by kernel_rfl) ?_ ?_
          · intro vals w' D hE hF hR K hK
            have d1 : vals 1 = .bool true := hR.1
            simp only [Rel.putL, Rel.dst, z1, z2, z3, z4, Act.put, z5, z6, z7, d1] at hK ⊢
            refine RelG.yes rfl ?_
            go_simp
            exact hK _ _ rfl (Below.refl _ _) (hE.same (by decide) (by decide))
          refine RelG.Steps.cons (L := [2]) rfl (by kernel_rfl) ?_ ?_
          · intro vals w' D hE hF hR K hK
            have d2 : vals 2 = .bool true := hR.1
            obtain ⟨s, A, l, c, c0, c1, hi⟩ := hE.1.int 1 rfl
            simp only [Rel.putL, Rel.dst, z1, z2, z3, z4, Act.put, z5, z6, z7, d2] at hK ⊢
            refine RelG.yes rfl ?_
            go_simp
            exact hK _ _ hi (Below.refl _ _) (hE.same (by decide) (by decide))
          refine RelG.Steps.cons (L := [3, 2]) rfl (by kernel_rfl) ?_ ?_
          · intro vals w' D hE hF hR K hK
            have r3 := hR.1
            have d2 : vals 2 = .bool true := hR.2.1
            simp only [Rel.putL, Rel.dst, z1, z2, z3, z4, Act.put, z5, z6, z7, d2] at hK ⊢
            refine RelG.yes rfl ?_
            go_simp
            go_at_call 117
            refine (short_yes r3 hq).mono ?_
            rintro e w2 ⟨rfl, hb⟩
            exact hK _ _ rfl hb (hE.step hb (by decide) (by decide))
          refine RelG.Steps.cons (L := [2, 4]) rfl (by kernel_rfl) ?_ ?_
          · intro vals w' D hE hF hR K hK
            have d2 : vals 2 = .bool true := hR.1
            have d4 : vals 4 = .bool true := hR.2.1
            simp only [Rel.putL, Rel.dst, z1, z2, z3, z4, Act.put, z5, z6, z7, d2, d4] at hK ⊢
            refine RelG.yes rfl ?_
            go_simp
            exact hK _ _ rfl (Below.refl _ _) (hE.same (by decide) (by decide))
          refine RelG.Steps.cons (L := [5]) rfl (by kernel_rfl) ?_ ?_
          · intro vals w' D hE hF hR K hK
            have d5 : vals 5 = .bool true := hR.1
            simp only [Rel.putL, Rel.dst, z1, z2, z3, z4, Act.put, z5, z6, z7, d5] at hK ⊢
            refine RelG.yes rfl ?_
            go_simp
            exact hK _ _ rfl (Below.refl _ _) (hE.same (by decide) (by decide))
          refine RelG.Steps.cons (L := [6]) rfl (by kernel_rfl) ?_ ?_
          · intro vals w' D hE hF hR K hK
            have d6 : vals 6 = .bool true := hR.1
            simp only [Rel.putL, Rel.dst, z1, z2, z3, z4, Act.put, z5, z6, z7, d6] at hK ⊢
            refine RelG.no rfl ?_
            exact hK _ _ trivial (Below.refl _ _) (hE.same (by decide) (by decide))
          refine RelG.Steps.cons (L := [7, 6]) rfl (by kernel_rfl) ?_ ?_
          · intro vals w' D hE hF hR K hK
            have d6 : vals 6 = .bool true := hR.2.1
            simp only [Rel.putL, Rel.dst, z1, z2, z3, z4, Act.put, z5, z6, z7, d6] at hK ⊢
            refine RelG.no rfl ?_
            exact hK _ _ trivial (Below.refl _ _) (hE.same (by decide) (by decide))
          refine RelG.Steps.cons (L := [6]) rfl (by kernel_rfl) ?_ ?_
          · intro vals w' D hE hF hR K hK
            have d6 : vals 6 = .bool true := hR.1
            simp only [Rel.putL, Rel.dst, z1, z2, z3, z4, Act.put, z5, z6, z7, d6] at hK ⊢
            refine RelG.no rfl ?_
            exact hK _ _ trivial (Below.refl _ _) (hE.same (by decide) (by decide))
          refine RelG.Steps.cons (L := [9, 6]) rfl (by kernel_rfl) ?_ ?_
          · intro vals w' D hE hF hR K hK
            have d6 : vals 6 = .bool true := hR.2.1
            simp only [Rel.putL, Rel.dst, z1, z2, z3, z4, Act.put, z5, z6, z7, d6] at hK ⊢
            refine RelG.no rfl ?_
            exact hK _ _ trivial (Below.refl _ _) (hE.same (by decide) (by decide))
          refine RelG.Steps.cons (L := [8, 10, 6]) rfl (by kernel_rfl) ?_ ?_
          · intro vals w' D hE hF hR K hK
            have d6 : vals 6 = .bool true := hR.2.2.1
            simp only [Rel.putL, Rel.dst, z1, z2, z3, z4, Act.put, z5, z6, z7, d6] at hK ⊢
            refine RelG.no rfl ?_
            exact hK _ _ trivial (Below.refl _ _) (hE.same (by decide) (by decide))
          refine RelG.Steps.cons (L := [6, 11]) rfl (by kernel_rfl) ?_ ?_
          · intro vals w' D hE hF hR K hK
            have d6 : vals 6 = .bool true := hR.1
            simp only [Rel.putL, Rel.dst, z1, z2, z3, z4, Act.put, z5, z6, z7, d6] at hK ⊢
            refine RelG.yes rfl ?_
            go_simp
            exact hK _ _ rfl (Below.refl _ _) (hE.same (by decide) (by decide))
          exact RelG.Steps.done
        · intro vals w1 D hD hE hR
          obtain ⟨r0, r1, r2, r3, r4, r5, r6, r7, r8, r9, r10, r11, r12, _⟩ := hR
          have e12 : vals 12 = .bool true := r12
          simp only [Rel.putL, Rel.dst, z1, z2, z3, z4, Act.put, z5, z6, z7, e12]
          have HQ := Lib.hid hE.1
          clear hE hD r0 r1 r2 r3 r4 r5 r6 r7 r8 r9 r10 r11 r12
          go_wp2_with fail
          go_meet
          exact ⟨by rw [HWW.out], HQ.out⟩
      · have HWW := Lib.hid (show W = (sp != sq) by rw [H.out.2.2.2.2.2.2.2.2.2]; simp [hq])
        refine RelG.region_rest 13 [0, 1, 2, 3, 4, 5, 6, 7, 8, 9, 10, 11, 12] _ rfl rfl (R := [fun v w => IsInt w v (p), fun v _ => v = .bool true, fun v _ => v = .bool true, fun v w => IsInt w v (q), fun v _ => v = .bool false, fun v _ => v = .bool false, fun v _ => v = .bool false, fun v w => IsInt w v (p), fun v _ => v = .int .i64 sp, fun v w => IsInt w v (q), fun v _ => v = .int .i64 sq, fun v _ => v = .bool (sp != sq), fun v _ => v = .bool (sp != sq)])
          (E := RE w [(g2, .int p), (g3, .int q)] wc.heap.size 1000 1001) (T := fun w w' => Below w.heap.size w w') (by kernel_rfl) (by kernel_rfl) (by kernel_rfl) (RE.start hX 1000 1001) ?_ ?_ ?_
        · intro D vals i v w1 w2 hi hE hT hv
          match i, hi with
          | 0, _ | 3, _ | 7, _ | 9, _ => exact IsInt.below hv hT (Nat.le_refl _)
          | 1, _ | 2, _ | 4, _ | 5, _ | 6, _ | 8, _ | 10, _ | 11, _ | 12, _ => exact hv
          | i + 13, hi => exact absurd hi (by omega)
        · refine RelG.Steps.cons (L := []) rfl (by kernel_rfl) ?_ ?_
          · intro vals w' D hE hF hR K hK
            obtain ⟨s, A, l, c, c0, c1, hi⟩ := hE.1.int 0 rfl
            simp only [Rel.putL, Rel.dst, z1, z2, z3, z4, Act.put, z5, z6, z7] at hK ⊢
            refine RelG.yes rfl ?_
            go_simp
            exact hK _ _ hi (Below.refl _ _) (hE.same (by decide) (by decide))
          refine RelG.Steps.cons (L := [0]) rfl (by kernel_rfl) ?_ ?_
          · intro vals w' D hE hF hR K hK
            have r0 := hR.1
            simp only [Rel.putL, Rel.dst, z1, z2, z3, z4, Act.put, z5, z6, z7] at hK ⊢
            refine RelG.yes rfl ?_
            go_simp
            go_at_call 117
            refine (short_yes r0 hp).mono ?_
            rintro e w2 ⟨rfl, hb⟩
            exact hK _ _ rfl hb (hE.step hb (by decide) (by decide))
          refine RelG.Steps.cons (L := [1]) rfl (by kernel_rfl) ?_ ?_
          · intro vals w' D hE hF hR K hK
            have d1 : vals 1 = .bool true := hR.1
            simp only [Rel.putL, Rel.dst, z1, z2, z3, z4, Act.put, z5, z6, z7, d1] at hK ⊢
            refine RelG.yes rfl ?_
            go_simp
            exact hK _ _ rfl (Below.refl _ _) (hE.same (by decide) (by decide))
          refine RelG.Steps.cons (L := [2]) rfl (by kernel_rfl) ?_ ?_
          · intro vals w' D hE hF hR K hK
            have d2 : vals 2 = .bool true := hR.1
            obtain ⟨s, A, l, c, c0, c1, hi⟩ := hE.1.int 1 rfl
            simp only [Rel.putL, Rel.dst, z1, z2, z3, z4, Act.put, z5, z6, z7, d2] at hK ⊢
            refine RelG.yes rfl ?_
            go_simp
            exact hK _ _ hi (Below.refl _ _) (hE.same (by decide) (by decide))
          refine RelG.Steps.cons (L := [3, 2]) rfl (by kernel_rfl) ?_ ?_
          · intro vals w' D hE hF hR K hK
            have r3 := hR.1
            have d2 : vals 2 = .bool true := hR.2.1
            simp only [Rel.putL, Rel.dst, z1, z2, z3, z4, Act.put, z5, z6, z7, d2] at hK ⊢
            refine RelG.yes rfl ?_
            go_simp
            go_at_call 117
            refine (short_no r3 hq).mono ?_
            rintro e w2 ⟨rfl, hb⟩
            exact hK _ _ rfl hb (hE.step hb (by decide) (by decide))
          refine RelG.Steps.cons (L := [2, 4]) rfl (by kernel_rfl) ?_ ?_
          · intro vals w' D hE hF hR K hK
            have d2 : vals 2 = .bool true := hR.1
            have d4 : vals 4 = .bool false := hR.2.1
            simp only [Rel.putL, Rel.dst, z1, z2, z3, z4, Act.put, z5, z6, z7, d2, d4] at hK ⊢
            refine RelG.yes rfl ?_
            go_simp
            exact hK _ _ rfl (Below.refl _ _) (hE.same (by decide) (by decide))
          refine RelG.Steps.cons (L := [5]) rfl (by kernel_rfl) ?_ ?_
          · intro vals w' D hE hF hR K hK
            have d5 : vals 5 = .bool false := hR.1
            simp only [Rel.putL, Rel.dst, z1, z2, z3, z4, Act.put, z5, z6, z7, d5] at hK ⊢
            refine RelG.yes rfl ?_
            go_simp
            exact hK _ _ rfl (Below.refl _ _) (hE.same (by decide) (by decide))
          refine RelG.Steps.cons (L := [6]) rfl (by kernel_rfl) ?_ ?_
          · intro vals w' D hE hF hR K hK
            have d6 : vals 6 = .bool false := hR.1
            obtain ⟨s, A, l, c, c0, c1, hi⟩ := hE.1.int 0 rfl
            simp only [Rel.putL, Rel.dst, z1, z2, z3, z4, Act.put, z5, z6, z7, d6] at hK ⊢
            refine RelG.yes rfl ?_
            go_simp
            exact hK _ _ hi (Below.refl _ _) (hE.same (by decide) (by decide))
          refine RelG.Steps.cons (L := [7, 6]) rfl (by kernel_rfl) ?_ ?_
          · intro vals w' D hE hF hR K hK
            have r7 := hR.1
            have d6 : vals 6 = .bool false := hR.2.1
            simp only [Rel.putL, Rel.dst, z1, z2, z3, z4, Act.put, z5, z6, z7, d6] at hK ⊢
            refine RelG.yes rfl ?_
            go_simp
            go_at_call 111
            refine (sign_any r7).mono ?_
            rintro e w2 ⟨rfl, hb⟩
            rw [← H.out.2.2.2.2.2.2.2.1]
            exact hK _ _ rfl hb (hE.step hb (by decide) (by decide))
          refine RelG.Steps.cons (L := [6]) rfl (by kernel_rfl) ?_ ?_
          · intro vals w' D hE hF hR K hK
            have d6 : vals 6 = .bool false := hR.1
            obtain ⟨s, A, l, c, c0, c1, hi⟩ := hE.1.int 1 rfl
            simp only [Rel.putL, Rel.dst, z1, z2, z3, z4, Act.put, z5, z6, z7, d6] at hK ⊢
            refine RelG.yes rfl ?_
            go_simp
            exact hK _ _ hi (Below.refl _ _) (hE.same (by decide) (by decide))
          refine RelG.Steps.cons (L := [9, 6]) rfl (by kernel_rfl) ?_ ?_
          · intro vals w' D hE hF hR K hK
            have r9 := hR.1
            have d6 : vals 6 = .bool false := hR.2.1
            simp only [Rel.putL, Rel.dst, z1, z2, z3, z4, Act.put, z5, z6, z7, d6] at hK ⊢
            refine RelG.yes rfl ?_
            go_simp
            go_at_call 111
            refine (sign_any r9).mono ?_
            rintro e w2 ⟨rfl, hb⟩
            rw [← H.out.2.2.2.2.2.2.2.2.1]
            exact hK _ _ rfl hb (hE.step hb (by decide) (by decide))
          refine RelG.Steps.cons (L := [8, 10, 6]) rfl (by kernel_rfl) ?_ ?_
          · intro vals w' D hE hF hR K hK
            have d8 : vals 8 = .int .i64 sp := hR.1
            have d10 : vals 10 = .int .i64 sq := hR.2.1
            have d6 : vals 6 = .bool false := hR.2.2.1
            simp only [Rel.putL, Rel.dst, z1, z2, z3, z4, Act.put, z5, z6, z7, d8, d10, d6] at hK ⊢
            refine RelG.yes rfl ?_
            go_simp
            exact hK _ _ rfl (Below.refl _ _) (hE.same (by decide) (by decide))
          refine RelG.Steps.cons (L := [6, 11]) rfl (by kernel_rfl) ?_ ?_
          · intro vals w' D hE hF hR K hK
            have d6 : vals 6 = .bool false := hR.1
            have d11 : vals 11 = .bool (sp != sq) := hR.2.1
            simp only [Rel.putL, Rel.dst, z1, z2, z3, z4, Act.put, z5, z6, z7, d6, d11] at hK ⊢
            refine RelG.yes rfl ?_
            go_simp
            exact hK _ _ rfl (Below.refl _ _) (hE.same (by decide) (by decide))
          exact RelG.Steps.done
        · intro vals w1 D hD hE hR
          obtain ⟨r0, r1, r2, r3, r4, r5, r6, r7, r8, r9, r10, r11, r12, _⟩ := hR
          have e12 : vals 12 = .bool (sp != sq) := r12
          simp only [Rel.putL, Rel.dst, z1, z2, z3, z4, Act.put, z5, z6, z7, e12]
          have HQ := Lib.hid hE.1
          clear hE hD r0 r1 r2 r3 r4 r5 r6 r7 r8 r9 r10 r11 r12
          go_wp2_with fail
          go_meet
          exact ⟨by rw [HWW.out], HQ.out⟩
    · have HWW := Lib.hid (show W = (sp != sq) by rw [H.out.2.2.2.2.2.2.2.2.2]; simp [hp])
      refine RelG.region_rest 13 [0, 1, 2, 3, 4, 5, 6, 7, 8, 9, 10, 11, 12] _ rfl rfl (R := [fun v w => IsInt w v (p), fun v _ => v = .bool false, fun v _ => v = .bool false, fun _ _ => True, fun _ _ => True, fun v _ => v = .bool false, fun v _ => v = .bool false, fun v w => IsInt w v (p), fun v _ => v = .int .i64 sp, fun v w => IsInt w v (q), fun v _ => v = .int .i64 sq, fun v _ => v = .bool (sp != sq), fun v _ => v = .bool (sp != sq)])
        (E := RE w [(g2, .int p), (g3, .int q)] wc.heap.size 1000 1001) (T := fun w w' => Below w.heap.size w w') (by kernel_rfl) (by kernel_rfl) (by kernel_rfl) (RE.start hX 1000 1001) ?_ ?_ ?_
      · intro D vals i v w1 w2 hi hE hT hv
        match i, hi with
        | 0, _ | 7, _ | 9, _ => exact IsInt.below hv hT (Nat.le_refl _)
        | 1, _ | 2, _ | 3, _ | 4, _ | 5, _ | 6, _ | 8, _ | 10, _ | 11, _ | 12, _ => exact hv
        | i + 13, hi => exact absurd hi (by omega)
      · refine RelG.Steps.cons (L := []) rfl (by kernel_rfl) ?_ ?_
        · intro vals w' D hE hF hR K hK
          obtain ⟨s, A, l, c, c0, c1, hi⟩ := hE.1.int 0 rfl
          simp only [Rel.putL, Rel.dst, z1, z2, z3, z4, Act.put, z5, z6, z7] at hK ⊢
          refine RelG.yes rfl ?_
          go_simp
          exact hK _ _ hi (Below.refl _ _) (hE.same (by decide) (by decide))
        refine RelG.Steps.cons (L := [0]) rfl (by kernel_rfl) ?_ ?_
        · intro vals w' D hE hF hR K hK
          have r0 := hR.1
          simp only [Rel.putL, Rel.dst, z1, z2, z3, z4, Act.put, z5, z6, z7] at hK ⊢
          refine RelG.yes rfl ?_
          go_simp
          go_at_call 117
          refine (short_no r0 hp).mono ?_
          rintro e w2 ⟨rfl, hb⟩
          exact hK _ _ rfl hb (hE.step hb (by decide) (by decide))
        refine RelG.Steps.cons (L := [1]) rfl (by kernel_rfl) ?_ ?_
        · intro vals w' D hE hF hR K hK
          have d1 : vals 1 = .bool false := hR.1
          simp only [Rel.putL, Rel.dst, z1, z2, z3, z4, Act.put, z5, z6, z7, d1] at hK ⊢
          refine RelG.yes rfl ?_
          go_simp
          exact hK _ _ rfl (Below.refl _ _) (hE.same (by decide) (by decide))
        refine RelG.Steps.cons (L := [2]) rfl (by kernel_rfl) ?_ ?_
        · intro vals w' D hE hF hR K hK
          have d2 : vals 2 = .bool false := hR.1
          simp only [Rel.putL, Rel.dst, z1, z2, z3, z4, Act.put, z5, z6, z7, d2] at hK ⊢
          refine RelG.no rfl ?_
          exact hK _ _ trivial (Below.refl _ _) (hE.same (by decide) (by decide))
        refine RelG.Steps.cons (L := [3, 2]) rfl (by kernel_rfl) ?_ ?_
        · intro vals w' D hE hF hR K hK
          have d2 : vals 2 = .bool false := hR.2.1
          simp only [Rel.putL, Rel.dst, z1, z2, z3, z4, Act.put, z5, z6, z7, d2] at hK ⊢
          refine RelG.no rfl ?_
          exact hK _ _ trivial (Below.refl _ _) (hE.same (by decide) (by decide))
        refine RelG.Steps.cons (L := [2, 4]) rfl (by kernel_rfl) ?_ ?_
        · intro vals w' D hE hF hR K hK
          have d2 : vals 2 = .bool false := hR.1
          simp only [Rel.putL, Rel.dst, z1, z2, z3, z4, Act.put, z5, z6, z7, d2] at hK ⊢
          refine RelG.yes rfl ?_
          go_simp
          exact hK _ _ rfl (Below.refl _ _) (hE.same (by decide) (by decide))
        refine RelG.Steps.cons (L := [5]) rfl (by kernel_rfl) ?_ ?_
        · intro vals w' D hE hF hR K hK
          have d5 : vals 5 = .bool false := hR.1
          simp only [Rel.putL, Rel.dst, z1, z2, z3, z4, Act.put, z5, z6, z7, d5] at hK ⊢
          refine RelG.yes rfl ?_
          go_simp
          exact hK _ _ rfl (Below.refl _ _) (hE.same (by decide) (by decide))
        refine RelG.Steps.cons (L := [6]) rfl (by kernel_rfl) ?_ ?_
        · intro vals w' D hE hF hR K hK
          have d6 : vals 6 = .bool false := hR.1
          obtain ⟨s, A, l, c, c0, c1, hi⟩ := hE.1.int 0 rfl
          simp only [Rel.putL, Rel.dst, z1, z2, z3, z4, Act.put, z5, z6, z7, d6] at hK ⊢
          refine RelG.yes rfl ?_
          go_simp
          exact hK _ _ hi (Below.refl _ _) (hE.same (by decide) (by decide))
        refine RelG.Steps.cons (L := [7, 6]) rfl (by kernel_rfl) ?_ ?_
        · intro vals w' D hE hF hR K hK
          have r7 := hR.1
          have d6 : vals 6 = .bool false := hR.2.1
          simp only [Rel.putL, Rel.dst, z1, z2, z3, z4, Act.put, z5, z6, z7, d6] at hK ⊢
          refine RelG.yes rfl ?_
          go_simp
          go_at_call 111
          refine (sign_any r7).mono ?_
          rintro e w2 ⟨rfl, hb⟩
          rw [← H.out.2.2.2.2.2.2.2.1]
          exact hK _ _ rfl hb (hE.step hb (by decide) (by decide))
        refine RelG.Steps.cons (L := [6]) rfl (by kernel_rfl) ?_ ?_
        · intro vals w' D hE hF hR K hK
          have d6 : vals 6 = .bool false := hR.1
          obtain ⟨s, A, l, c, c0, c1, hi⟩ := hE.1.int 1 rfl
          simp only [Rel.putL, Rel.dst, z1, z2, z3, z4, Act.put, z5, z6, z7, d6] at hK ⊢
          refine RelG.yes rfl ?_
          go_simp
          exact hK _ _ hi (Below.refl _ _) (hE.same (by decide) (by decide))
        refine RelG.Steps.cons (L := [9, 6]) rfl (by kernel_rfl) ?_ ?_
        · intro vals w' D hE hF hR K hK
          have r9 := hR.1
          have d6 : vals 6 = .bool false := hR.2.1
          simp only [Rel.putL, Rel.dst, z1, z2, z3, z4, Act.put, z5, z6, z7, d6] at hK ⊢
          refine RelG.yes rfl ?_
          go_simp
          go_at_call 111
          refine (sign_any r9).mono ?_
          rintro e w2 ⟨rfl, hb⟩
          rw [← H.out.2.2.2.2.2.2.2.2.1]
          exact hK _ _ rfl hb (hE.step hb (by decide) (by decide))
        refine RelG.Steps.cons (L := [8, 10, 6]) rfl (by kernel_rfl) ?_ ?_
        · intro vals w' D hE hF hR K hK
          have d8 : vals 8 = .int .i64 sp := hR.1
          have d10 : vals 10 = .int .i64 sq := hR.2.1
          have d6 : vals 6 = .bool false := hR.2.2.1
          simp only [Rel.putL, Rel.dst, z1, z2, z3, z4, Act.put, z5, z6, z7, d8, d10, d6] at hK ⊢
          refine RelG.yes rfl ?_
          go_simp
          exact hK _ _ rfl (Below.refl _ _) (hE.same (by decide) (by decide))
        refine RelG.Steps.cons (L := [6, 11]) rfl (by kernel_rfl) ?_ ?_
        · intro vals w' D hE hF hR K hK
          have d6 : vals 6 = .bool false := hR.1
          have d11 : vals 11 = .bool (sp != sq) := hR.2.1
          simp only [Rel.putL, Rel.dst, z1, z2, z3, z4, Act.put, z5, z6, z7, d6, d11] at hK ⊢
          refine RelG.yes rfl ?_
          go_simp
          exact hK _ _ rfl (Below.refl _ _) (hE.same (by decide) (by decide))
        exact RelG.Steps.done
      · intro vals w1 D hD hE hR
        obtain ⟨r0, r1, r2, r3, r4, r5, r6, r7, r8, r9, r10, r11, r12, _⟩ := hR
        have e12 : vals 12 = .bool (sp != sq) := r12
        simp only [Rel.putL, Rel.dst, z1, z2, z3, z4, Act.put, z5, z6, z7, e12]
        have HQ := Lib.hid hE.1
        clear hE hD r0 r1 r2 r3 r4 r5 r6 r7 r8 r9 r10 r11 r12
        go_wp2_with fail
        go_meet
        exact ⟨by rw [HWW.out], HQ.out⟩
  obtain ⟨rfl, hY⟩ := hcut
  obtain ⟨s2, A2, l2, k2, a0, a1, hi2⟩ := hY.int 0 rfl
  obtain ⟨s3, A3, l3, k3, b0, b1, hj3⟩ := hY.int 1 rfl
  have hs2 : s2 = wrd p := hi2.word
  have hs3 : s3 = wrd q := hj3.word
  have HY := Lib.hid (And.intro hY (And.intro hi2 (And.intro hj3 (And.intro hs2 hs3))))
  clear hY hi2 hj3 hs2 hs3
  rcases Bool.eq_false_or_eq_true W with hW | hW
  · have hc : cmpI s2 s3 = r := by
      have h1 := H.out.2.2.2.2.2.2.2.2.2
      rw [hW] at h1
      rw [HY.out.2.2.2.1, HY.out.2.2.2.2, H.out.2.2.2.2.2.2.1]
      by_cases hb : p.natAbs ≤ 4611686018427387903 ∧ q.natAbs ≤ 4611686018427387903
      · rw [wrd_short hb.1, wrd_short hb.2]
      · rw [decide_eq_false hb, Bool.false_or, H.out.2.2.2.2.2.2.2.1, H.out.2.2.2.2.2.2.2.2.1] at h1
        exact cmp_sgn_ne (by simpa using h1.symm)
    have HC := Lib.hid hc
    clear hc
    subst hW
    go_wp2_with fail
    refine (cmp_int s2 s3 _).mono ?_
    rw [HC.out]
    rintro e w' ⟨rfl, rfl⟩
    go_wp2
    go_ret
    exact ⟨rfl, HY.out.1.below⟩
  · have hc : sp = sq ∧ sp * cmpI p.natAbs q.natAbs = r := by
      have h1 := H.out.2.2.2.2.2.2.2.2.2
      rw [hW] at h1
      have h2 : sp = sq := by
        have := (Bool.or_eq_false_iff.1 h1.symm).2
        simpa using this
      refine ⟨h2, ?_⟩
      rw [H.out.2.2.2.2.2.2.2.1, H.out.2.2.2.2.2.2.1]
      exact cmp_mag (by rw [← H.out.2.2.2.2.2.2.2.1, h2, H.out.2.2.2.2.2.2.2.2.1])
    obtain ⟨cm, hcm⟩ : ∃ cm, cm = cmpI p.natAbs q.natAbs := ⟨_, rfl⟩
    rw [← hcm] at hc
    have hcb : (-1 ≤ sp ∧ sp ≤ 1) ∧ -1 ≤ cm ∧ cm ≤ 1 := by
      rw [H.out.2.2.2.2.2.2.2.1, hcm]
      unfold sgn cmpI
      refine ⟨?_, ?_⟩ <;> (split <;> (try split) <;> omega)
    have hmul : IntKind.i64.wrap (sp * cm) = r := by
      rw [hc.2]
      refine IntWalk.i64_in _ ?_
      rw [← hc.2]
      rcases (by omega : sp = -1 ∨ sp = 0 ∨ sp = 1) with e | e | e <;> rw [e] <;> omega
    have HC := Lib.hid (And.intro hcm hc.1)
    clear hc hcb hcm
    subst hW
    go_upto_region 3 with fail
    refine RelV.region_rest 8 [0, 1, 2, 3, 4, 5, 6, 7] _ rfl rfl (R := [fun v w => IsInt w v (p), fun v _ => v = .int .i64 sp, fun v w => IsInt w v (p), fun v w => IsNat w v p.natAbs, fun v w => IsInt w v (q), fun v w => IsNat w v q.natAbs, fun v _ => v = .int .i64 cm, fun v _ => v = .int .i64 r])
      (E := RE w [(g2, .int p), (g3, .int q)] wc.heap.size 1000 1001) (T := fun w w' => Below w.heap.size w w') (by kernel_rfl) (by kernel_rfl) (by kernel_rfl) (RE.start HY.out.1 1000 1001) ?_ ?_ ?_
    · intro D vals i v w1 w2 hi hE hT hv
      match i, hi with
      | 0, _ | 2, _ | 4, _ => exact IsInt.below hv hT (Nat.le_refl _)
      | 3, _ | 5, _ => exact IsNat.below hv hT (Nat.le_refl _)
      | 1, _ | 6, _ | 7, _ => exact hv
      | i + 8, hi => exact absurd hi (by omega)
    · refine RelV.Steps.cons (L := []) rfl (by kernel_rfl) ?_ ?_
      · intro vals w' D hE hF hR K hK
        obtain ⟨s, A, l, c, c0, c1, hi⟩ := hE.1.int 0 rfl
        simp only [Rel.putL, Rel.dst, z1, z2, z3, z4, Act.put, z5, z6, z7] at hK ⊢
        go_simp
        exact hK _ _ hi (Below.refl _ _) (hE.same (by decide) (by decide))
      refine RelV.Steps.cons (L := [0]) rfl (by kernel_rfl) ?_ ?_
      · intro vals w' D hE hF hR K hK
        have r0 := hR.1
        simp only [Rel.putL, Rel.dst, z1, z2, z3, z4, Act.put, z5, z6, z7] at hK ⊢
        go_simp
        go_at_call 111
        refine (sign_any r0).mono ?_
        rintro e w2 ⟨rfl, hb⟩
        rw [← H.out.2.2.2.2.2.2.2.1]
        exact hK _ _ rfl hb (hE.step hb (by decide) (by decide))
      refine RelV.Steps.cons (L := []) rfl (by kernel_rfl) ?_ ?_
      · intro vals w' D hE hF hR K hK
        obtain ⟨s, A, l, c, c0, c1, hi⟩ := hE.1.int 0 rfl
        simp only [Rel.putL, Rel.dst, z1, z2, z3, z4, Act.put, z5, z6, z7] at hK ⊢
        go_simp
        exact hK _ _ hi (Below.refl _ _) (hE.same (by decide) (by decide))
      refine RelV.Steps.cons (L := [2]) rfl (by kernel_rfl) ?_ ?_
      · intro vals w' D hE hF hR K hK
        have r2 := hR.1
        simp only [Rel.putL, Rel.dst, z1, z2, z3, z4, Act.put, z5, z6, z7] at hK ⊢
        go_simp
        go_at_call 119
        refine (limbs_any r2).mono ?_
        rintro e w2 ⟨v, rfl, hv, hb⟩
        exact hK _ _ hv hb (hE.step hb (by decide) (by decide))
      refine RelV.Steps.cons (L := []) rfl (by kernel_rfl) ?_ ?_
      · intro vals w' D hE hF hR K hK
        obtain ⟨s, A, l, c, c0, c1, hi⟩ := hE.1.int 1 rfl
        simp only [Rel.putL, Rel.dst, z1, z2, z3, z4, Act.put, z5, z6, z7] at hK ⊢
        go_simp
        exact hK _ _ hi (Below.refl _ _) (hE.same (by decide) (by decide))
      refine RelV.Steps.cons (L := [4]) rfl (by kernel_rfl) ?_ ?_
      · intro vals w' D hE hF hR K hK
        have r4 := hR.1
        simp only [Rel.putL, Rel.dst, z1, z2, z3, z4, Act.put, z5, z6, z7] at hK ⊢
        go_simp
        go_at_call 119
        refine (limbs_any r4).mono ?_
        rintro e w2 ⟨v, rfl, hv, hb⟩
        exact hK _ _ hv hb (hE.step hb (by decide) (by decide))
      refine RelV.Steps.cons (L := [3, 5]) rfl (by kernel_rfl) ?_ ?_
      · intro vals w' D hE hF hR K hK
        have r3 := hR.1
        have r5 := hR.2.1
        simp only [Rel.putL, Rel.dst, z1, z2, z3, z4, Act.put, z5, z6, z7] at hK ⊢
        go_simp
        go_at_call 201
        refine (compare_nat r3 r5 H.out.2.2.1 H.out.2.2.2.1 (by omega)).mono ?_
        rintro e w2 ⟨rfl, hd⟩
        rw [← HC.out.1]
        have hb := hd.below w'.heap.size
        exact hK _ _ rfl hb (hE.step hb (by decide) (by decide))
      refine RelV.Steps.cons (L := [1, 6]) rfl (by kernel_rfl) ?_ ?_
      · intro vals w' D hE hF hR K hK
        have d1 : vals 1 = .int .i64 sp := hR.1
        have d6 : vals 6 = .int .i64 cm := hR.2.1
        simp only [Rel.putL, Rel.dst, z1, z2, z3, z4, Act.put, z5, z6, z7, d1, d6] at hK ⊢
        go_simp
        exact hK _ _ rfl (Below.refl _ _) (hE.same (by decide) (by decide))
      exact RelV.Steps.done
    · intro vals w1 D hD hE hR
      obtain ⟨r0, r1, r2, r3, r4, r5, r6, r7, _⟩ := hR
      have e7 : vals 7 = .int .i64 r := r7
      simp only [Rel.putL, Rel.dst, z1, z2, z3, z4, Act.put, z5, z6, z7, e7]
      have HQ := Lib.hid hE.1
      clear hE hD r0 r1 r2 r3 r4 r5 r6 r7
      go_wp2
      go_ret
      exact ⟨rfl, HQ.out.below⟩
end Go.Proofs.YtjghgbfagjhdgaaGreatDoor
