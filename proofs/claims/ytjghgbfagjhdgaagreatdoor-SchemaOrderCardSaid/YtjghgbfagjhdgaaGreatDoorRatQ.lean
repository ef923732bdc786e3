/- Times of fractions. -/
import Derived.Test.YtjghgbfagjhdgaaGreatDoorRatAB
namespace Go.Proofs.YtjghgbfagjhdgaaGreatDoor
open Go Go.RowKit

set_option linter.unusedSimpArgs false in
set_option maxHeartbeats 4000000 in
set_option maxRecDepth 100000 in
theorem qtimes_any {w : World} {a b : Value} {x y : Rat} {k : Nat} (ha : IsRat w a x) (hb : IsRat w b y) (hx : F.Lt (M.B ^ k) x) (hy : F.Lt (M.B ^ k) y) (hk1 : 1 ≤ k) (hk : k ≤ 14000) :
    Calls Tryz.prog 143 #[a, b] w fun e w' => ∃ v, e = .returned v ∧ IsRat w' v (x * y) ∧ Below w.heap.size w w' := by
  obtain ⟨s, A, l, c, t, A', l', c', rfl⟩ := ha.shape
  obtain ⟨s1, A1, l1, c1, t1, A1', l1', c1', rfl⟩ := hb.shape
  obtain ⟨T1, T2, hTH⟩ := TH.start hx hy hk1 hk
  have H := Lib.hid (And.intro ha (And.intro hb hTH))
  clear ha hb hx hy hTH
  go_enter Tryz.func143, Tryz.ntmps143
  go_upto_region 0 with fail
  go_cut [2, 3, 4] from 9 (fun s2 s3 s4 wx => ∃ g2 g3 g4 : Nat, s2 = .pointer (some ⟨g2, 0, none⟩) ∧ s3 = .pointer (some ⟨g3, 0, none⟩) ∧ s4 = .pointer (some ⟨g4, 0, none⟩) ∧ Pls w [(g2, .rat x), (g3, .rat y), (g4, .rhole)] wx)
  case first =>
    go_wp2_with fail
    go_meet
    exact ⟨_, _, _, rfl, rfl, rfl, (((Pls.start w).boxRat H.out.1 rfl).boxRat (H.out.2.1.below ((Below.refl _ _).alloc (Nat.le_refl _) _)) (by simp)).newRhole (by simp)⟩
  obtain ⟨g2, g3, g4, rfl, rfl, rfl, hP⟩ := hcut
  go_upto_region 1 with fail
  go_cut [5, 6] from 9 (fun s5 s6 wx => ∃ g5 g6 : Nat, s5 = .pointer (some ⟨g5, 0, none⟩) ∧ s6 = .pointer (some ⟨g6, 0, none⟩) ∧ Pls w [(g2, .rat x), (g3, .rat y), (g4, .rhole), (g5, .int (x.den : Int)), (g6, .int (y.den : Int))] wx)
  case first =>
    refine RelV.region_rest 6 [0, 1, 2, 3, 4, 5] _ rfl rfl (R := [fun v w => IsRat w v (x), fun v w => IsInt w v (x.den : Int), fun v w => IsRat w v (y), fun v w => IsInt w v (y.den : Int), NewAt wc.heap.size .hole, NewAt wc.heap.size .hole])
      (E := RE w [(g2, .rat x), (g3, .rat y), (g4, .rhole)] wc.heap.size 4 5) (T := fun w w' => Below w.heap.size w w') (by kernel_rfl) (by kernel_rfl) (by kernel_rfl) (RE.start hP 4 5) ?_ ?_ ?_
    · intro D vals i v w1 w2 hi hE hT hv
      match i, hi with
      | 0, _ | 2, _ => exact IsRat.below hv hT
      | 1, _ | 3, _ => exact IsInt.below hv hT (Nat.le_refl _)
      | 4, _ | 5, _ => exact NewAt.below hv hT
      | i + 6, hi => exact absurd hi (by omega)
    · refine RelV.Steps.cons (L := []) rfl (by kernel_rfl) ?_ ?_
      · intro vals w' D hE hF hR K hK
        obtain ⟨s, A, l, c, t, A', l', c', c0, c1, c2, c3, hi⟩ := hE.1.rat 0 rfl
        simp only [Rel.putL, Rel.dst, z1, z2, z3, z4, Act.put, z5, z6, z7] at hK ⊢
        go_simp
        exact hK _ _ hi (Below.refl _ _) (hE.same (by decide) (by decide))
      refine RelV.Steps.cons (L := [0]) rfl (by kernel_rfl) ?_ ?_
      · intro vals w' D hE hF hR K hK
        have r0 := hR.1
        simp only [Rel.putL, Rel.dst, z1, z2, z3, z4, Act.put, z5, z6, z7] at hK ⊢
        go_simp
        go_at_call 106
        refine (den_any r0).mono ?_
        rintro e w2 ⟨v, rfl, hv, hb⟩
        exact hK _ _ hv hb (hE.step hb (by decide) (by decide))
      refine RelV.Steps.cons (L := []) rfl (by kernel_rfl) ?_ ?_
      · intro vals w' D hE hF hR K hK
        obtain ⟨s, A, l, c, t, A', l', c', c0, c1, c2, c3, hi⟩ := hE.1.rat 1 rfl
        simp only [Rel.putL, Rel.dst, z1, z2, z3, z4, Act.put, z5, z6, z7] at hK ⊢
        go_simp
        exact hK _ _ hi (Below.refl _ _) (hE.same (by decide) (by decide))
      refine RelV.Steps.cons (L := [2]) rfl (by kernel_rfl) ?_ ?_
      · intro vals w' D hE hF hR K hK
        have r2 := hR.1
        simp only [Rel.putL, Rel.dst, z1, z2, z3, z4, Act.put, z5, z6, z7] at hK ⊢
        go_simp
        go_at_call 106
        refine (den_any r2).mono ?_
        rintro e w2 ⟨v, rfl, hv, hb⟩
        exact hK _ _ hv hb (hE.step hb (by decide) (by decide))
      refine RelV.Steps.cons (L := []) rfl (by kernel_rfl) ?_ ?_
      · intro vals w' D hE hF hR K hK
        simp only [Rel.putL, Rel.dst, z1, z2, z3, z4, Act.put, z5, z6, z7] at hK ⊢
        go_simp
        exact hK _ _ hE.newHole ((Below.refl _ _).alloc (Nat.le_refl _) _) (hE.first (by decide) _)
      refine RelV.Steps.cons (L := []) rfl (by kernel_rfl) ?_ ?_
      · intro vals w' D hE hF hR K hK
        simp only [Rel.putL, Rel.dst, z1, z2, z3, z4, Act.put, z5, z6, z7] at hK ⊢
        go_simp
        exact hK _ _ hE.newHole ((Below.refl _ _).alloc (Nat.le_refl _) _) (hE.second (by decide) _)
      exact RelV.Steps.done
    · intro vals w1 D hD hE hR
      obtain ⟨r0, r1, r2, r3, r4, r5, _⟩ := hR
      obtain ⟨g5, e5, n5, a5⟩ := r4
      obtain ⟨g6, e6, n6, a6⟩ := r5
      obtain ⟨hP1, hne⟩ := hE.two ((hD 4).2 (by omega)) ((hD 5).2 (by omega)) e5 n5 a5 e6 n6 a6
      obtain ⟨p1, A1, l1, c1, e1⟩ := r1.form
      rw [e1] at r1
      obtain ⟨p3, A3, l3, c3, e3⟩ := r3.form
      rw [e3] at r3
      obtain ⟨m0, m1, d0, d1, f0, f1⟩ := hP1.hole 3 rfl
      have hP2 := hP1.storeInt 3 rfl r1
      obtain ⟨v0, v1, b0, b1, k0, k1⟩ := hP2.hole 4 rfl
      have HQ := Lib.hid (hP2.storeInt 4 rfl (hP1.keepInt 3 rfl p1 A1 l1 c1 r3))
      unfold stInt at b0 b1 k0 k1
      simp only [Rel.putL, Rel.dst, z1, z2, z3, z4, Act.put, z5, z6, z7, e1, e3, e5, e6]
      clear hE hD hP1 hP2 hne r0 r1 r2 r3
      go_wp2_with fail
      go_meet
      exact ⟨_, _, rfl, rfl, HQ.out⟩
  clear hP
  obtain ⟨g5, g6, rfl, rfl, hP⟩ := hcut
  go_upto_region 2 with fail
  go_cut [7, 8] from 9 (fun s7 s8 wx => ∃ g7 g8 : Nat, s7 = .pointer (some ⟨g7, 0, none⟩) ∧ s8 = .pointer (some ⟨g8, 0, none⟩) ∧ Pls w [(g2, .rat x), (g3, .rat y), (g4, .rhole), (g5, .int (x.den : Int)), (g6, .int (y.den : Int)), (g7, .int T1), (g8, .int T2)] wx)
  case first =>
    refine RelV.region_rest 10 [0, 1, 2, 3, 4, 5, 6, 7, 8, 9] _ rfl rfl (R := [fun v _ => v = .pointer (some ⟨g2, 0, none⟩), fun v w => IsInt w v (x).num, fun v w => IsInt w v ((y.den : Int)), fun v w => IsInt w v T1, fun v _ => v = .pointer (some ⟨g3, 0, none⟩), fun v w => IsInt w v (y).num, fun v w => IsInt w v ((x.den : Int)), fun v w => IsInt w v T2, NewAt wc.heap.size .hole, NewAt wc.heap.size .hole])
      (E := RE w [(g2, .rat x), (g3, .rat y), (g4, .rhole), (g5, .int (x.den : Int)), (g6, .int (y.den : Int))] wc.heap.size 8 9) (T := fun w w' => Below w.heap.size w w') (by kernel_rfl) (by kernel_rfl) (by kernel_rfl) (RE.start hP 8 9) ?_ ?_ ?_
    · intro D vals i v w1 w2 hi hE hT hv
      match i, hi with
      | 1, _ | 2, _ | 3, _ | 5, _ | 6, _ | 7, _ => exact IsInt.below hv hT (Nat.le_refl _)
      | 8, _ | 9, _ => exact NewAt.below hv hT
      | 0, _ | 4, _ => exact hv
      | i + 10, hi => exact absurd hi (by omega)
    · refine RelV.Steps.cons (L := []) rfl (by kernel_rfl) ?_ ?_
      · intro vals w' D hE hF hR K hK
        simp only [Rel.putL, Rel.dst, z1, z2, z3, z4, Act.put, z5, z6, z7] at hK ⊢
        go_simp
        exact hK _ _ rfl (Below.refl _ _) (hE.same (by decide) (by decide))
      refine RelV.Steps.cons (L := [0]) rfl (by kernel_rfl) ?_ ?_
      · intro vals w' D hE hF hR K hK
        have d0 : vals 0 = .pointer (some ⟨g2, 0, none⟩) := hR.1
        obtain ⟨s, A, l, c, t, A', l', c', c0, c1, c2, c3, hi⟩ := hE.1.rat 0 rfl
        simp only [Rel.putL, Rel.dst, z1, z2, z3, z4, Act.put, z5, z6, z7, d0] at hK ⊢
        go_simp
        exact hK _ _ hi.num (Below.refl _ _) (hE.same (by decide) (by decide))
      refine RelV.Steps.cons (L := []) rfl (by kernel_rfl) ?_ ?_
      · intro vals w' D hE hF hR K hK
        obtain ⟨s, A, l, c, c0, c1, hi⟩ := hE.1.int 4 rfl
        simp only [Rel.putL, Rel.dst, z1, z2, z3, z4, Act.put, z5, z6, z7] at hK ⊢
        go_simp
        exact hK _ _ hi (Below.refl _ _) (hE.same (by decide) (by decide))
      refine RelV.Steps.cons (L := [1, 2]) rfl (by kernel_rfl) ?_ ?_
      · intro vals w' D hE hF hR K hK
        have r1 := hR.1
        have r2 := hR.2.1
        simp only [Rel.putL, Rel.dst, z1, z2, z3, z4, Act.put, z5, z6, z7] at hK ⊢
        go_simp
        go_at_call 121
        refine (H.out.2.2.gcd1 r1 r2).mono ?_
        rintro e w2 ⟨v, rfl, hv, hb⟩
        exact hK _ _ hv hb (hE.step hb (by decide) (by decide))
      refine RelV.Steps.cons (L := []) rfl (by kernel_rfl) ?_ ?_
      · intro vals w' D hE hF hR K hK
        simp only [Rel.putL, Rel.dst, z1, z2, z3, z4, Act.put, z5, z6, z7] at hK ⊢
        go_simp
        exact hK _ _ rfl (Below.refl _ _) (hE.same (by decide) (by decide))
      refine RelV.Steps.cons (L := [4]) rfl (by kernel_rfl) ?_ ?_
      · intro vals w' D hE hF hR K hK
        have d4 : vals 4 = .pointer (some ⟨g3, 0, none⟩) := hR.1
        obtain ⟨s, A, l, c, t, A', l', c', c0, c1, c2, c3, hi⟩ := hE.1.rat 1 rfl
        simp only [Rel.putL, Rel.dst, z1, z2, z3, z4, Act.put, z5, z6, z7, d4] at hK ⊢
        go_simp
        exact hK _ _ hi.num (Below.refl _ _) (hE.same (by decide) (by decide))
      refine RelV.Steps.cons (L := []) rfl (by kernel_rfl) ?_ ?_
      · intro vals w' D hE hF hR K hK
        obtain ⟨s, A, l, c, c0, c1, hi⟩ := hE.1.int 3 rfl
        simp only [Rel.putL, Rel.dst, z1, z2, z3, z4, Act.put, z5, z6, z7] at hK ⊢
        go_simp
        exact hK _ _ hi (Below.refl _ _) (hE.same (by decide) (by decide))
      refine RelV.Steps.cons (L := [5, 6]) rfl (by kernel_rfl) ?_ ?_
      · intro vals w' D hE hF hR K hK
        have r5 := hR.1
        have r6 := hR.2.1
        simp only [Rel.putL, Rel.dst, z1, z2, z3, z4, Act.put, z5, z6, z7] at hK ⊢
        go_simp
        go_at_call 121
        refine (H.out.2.2.gcd2 r5 r6).mono ?_
        rintro e w2 ⟨v, rfl, hv, hb⟩
        exact hK _ _ hv hb (hE.step hb (by decide) (by decide))
      refine RelV.Steps.cons (L := []) rfl (by kernel_rfl) ?_ ?_
      · intro vals w' D hE hF hR K hK
        simp only [Rel.putL, Rel.dst, z1, z2, z3, z4, Act.put, z5, z6, z7] at hK ⊢
        go_simp
        exact hK _ _ hE.newHole ((Below.refl _ _).alloc (Nat.le_refl _) _) (hE.first (by decide) _)
      refine RelV.Steps.cons (L := []) rfl (by kernel_rfl) ?_ ?_
      · intro vals w' D hE hF hR K hK
        simp only [Rel.putL, Rel.dst, z1, z2, z3, z4, Act.put, z5, z6, z7] at hK ⊢
        go_simp
        exact hK _ _ hE.newHole ((Below.refl _ _).alloc (Nat.le_refl _) _) (hE.second (by decide) _)
      exact RelV.Steps.done
    · intro vals w1 D hD hE hR
      obtain ⟨r0, r1, r2, r3, r4, r5, r6, r7, r8, r9, _⟩ := hR
      obtain ⟨g7, e7, n7, a7⟩ := r8
      obtain ⟨g8, e8, n8, a8⟩ := r9
      obtain ⟨hP1, hne⟩ := hE.two ((hD 8).2 (by omega)) ((hD 9).2 (by omega)) e7 n7 a7 e8 n8 a8
      obtain ⟨p1, A1, l1, c1, e1⟩ := r3.form
      rw [e1] at r3
      obtain ⟨p3, A3, l3, c3, e3⟩ := r7.form
      rw [e3] at r7
      obtain ⟨m0, m1, d0, d1, f0, f1⟩ := hP1.hole 5 rfl
      have hP2 := hP1.storeInt 5 rfl r3
      obtain ⟨v0, v1, b0, b1, k0, k1⟩ := hP2.hole 6 rfl
      have HQ := Lib.hid (hP2.storeInt 6 rfl (hP1.keepInt 5 rfl p1 A1 l1 c1 r7))
      unfold stInt at b0 b1 k0 k1
      simp only [Rel.putL, Rel.dst, z1, z2, z3, z4, Act.put, z5, z6, z7, e1, e3, e7, e8]
      clear hE hD hP1 hP2 hne r0 r1 r2 r3 r4 r5 r6 r7
      go_wp2_with fail
      go_meet
      exact ⟨_, _, rfl, rfl, HQ.out⟩
  clear hP
  obtain ⟨g7, g8, rfl, rfl, hP⟩ := hcut
  go_upto_region 3 with fail
  refine RelV.region_rest 17 [0, 1, 2, 3, 4, 5, 6, 7, 8, 9, 10, 11, 12, 13, 14, 15, 16] _ rfl rfl (R := [fun v _ => v = .pointer (some ⟨g2, 0, none⟩), fun v w => IsInt w v (x).num, fun v w => IsInt w v (T1), fun v w => IsInt w v (x.num / T1), fun v _ => v = .pointer (some ⟨g3, 0, none⟩), fun v w => IsInt w v (y).num, fun v w => IsInt w v (T2), fun v w => IsInt w v (y.num / T2), fun v w => IsInt w v (x * y).num, fun v w => IsInt w v ((x.den : Int)), fun v w => IsInt w v (T2), fun v w => IsInt w v ((x.den : Int) / T2), fun v w => IsInt w v ((y.den : Int)), fun v w => IsInt w v (T1), fun v w => IsInt w v ((y.den : Int) / T1), fun v w => IsInt w v ((x * y).den : Int), fun v w => IsRat w v (x * y)])
    (E := RE w [(g2, .rat x), (g3, .rat y), (g4, .rhole), (g5, .int (x.den : Int)), (g6, .int (y.den : Int)), (g7, .int T1), (g8, .int T2)] wc.heap.size 1000 1001) (T := fun w w' => Below w.heap.size w w') (by kernel_rfl) (by kernel_rfl) (by kernel_rfl) (RE.start hP 1000 1001) ?_ ?_ ?_
  · intro D vals i v w1 w2 hi hE hT hv
    match i, hi with
    | 16, _ => exact IsRat.below hv hT
    | 1, _ | 2, _ | 3, _ | 5, _ | 6, _ | 7, _ | 8, _ | 9, _ | 10, _ | 11, _ | 12, _ | 13, _ | 14, _ | 15, _ => exact IsInt.below hv hT (Nat.le_refl _)
    | 0, _ | 4, _ => exact hv
    | i + 17, hi => exact absurd hi (by omega)
  · refine RelV.Steps.cons (L := []) rfl (by kernel_rfl) ?_ ?_
    · intro vals w' D hE hF hR K hK
      simp only [Rel.putL, Rel.dst, z1, z2, z3, z4, Act.put, z5, z6, z7] at hK ⊢
      go_simp
      exact hK _ _ rfl (Below.refl _ _) (hE.same (by decide) (by decide))
    refine RelV.Steps.cons (L := [0]) rfl (by kernel_rfl) ?_ ?_
    · intro vals w' D hE hF hR K hK
      have d0 : vals 0 = .pointer (some ⟨g2, 0, none⟩) := hR.1
      obtain ⟨s, A, l, c, t, A', l', c', c0, c1, c2, c3, hi⟩ := hE.1.rat 0 rfl
      simp only [Rel.putL, Rel.dst, z1, z2, z3, z4, Act.put, z5, z6, z7, d0] at hK ⊢
      go_simp
      exact hK _ _ hi.num (Below.refl _ _) (hE.same (by decide) (by decide))
    refine RelV.Steps.cons (L := []) rfl (by kernel_rfl) ?_ ?_
    · intro vals w' D hE hF hR K hK
      obtain ⟨s, A, l, c, c0, c1, hi⟩ := hE.1.int 5 rfl
      simp only [Rel.putL, Rel.dst, z1, z2, z3, z4, Act.put, z5, z6, z7] at hK ⊢
      go_simp
      exact hK _ _ hi (Below.refl _ _) (hE.same (by decide) (by decide))
    refine RelV.Steps.cons (L := [1, 2]) rfl (by kernel_rfl) ?_ ?_
    · intro vals w' D hE hF hR K hK
      have r1 := hR.1
      have r2 := hR.2.1
      simp only [Rel.putL, Rel.dst, z1, z2, z3, z4, Act.put, z5, z6, z7] at hK ⊢
      go_simp
      go_at_call 122
      refine (H.out.2.2.pnx r1 r2).mono ?_
      rintro e w2 ⟨v, rfl, hv, hb⟩
      exact hK _ _ hv hb (hE.step hb (by decide) (by decide))
    refine RelV.Steps.cons (L := []) rfl (by kernel_rfl) ?_ ?_
    · intro vals w' D hE hF hR K hK
      simp only [Rel.putL, Rel.dst, z1, z2, z3, z4, Act.put, z5, z6, z7] at hK ⊢
      go_simp
      exact hK _ _ rfl (Below.refl _ _) (hE.same (by decide) (by decide))
    refine RelV.Steps.cons (L := [4]) rfl (by kernel_rfl) ?_ ?_
    · intro vals w' D hE hF hR K hK
      have d4 : vals 4 = .pointer (some ⟨g3, 0, none⟩) := hR.1
      obtain ⟨s, A, l, c, t, A', l', c', c0, c1, c2, c3, hi⟩ := hE.1.rat 1 rfl
      simp only [Rel.putL, Rel.dst, z1, z2, z3, z4, Act.put, z5, z6, z7, d4] at hK ⊢
      go_simp
      exact hK _ _ hi.num (Below.refl _ _) (hE.same (by decide) (by decide))
    refine RelV.Steps.cons (L := []) rfl (by kernel_rfl) ?_ ?_
    · intro vals w' D hE hF hR K hK
      obtain ⟨s, A, l, c, c0, c1, hi⟩ := hE.1.int 6 rfl
      simp only [Rel.putL, Rel.dst, z1, z2, z3, z4, Act.put, z5, z6, z7] at hK ⊢
      go_simp
      exact hK _ _ hi (Below.refl _ _) (hE.same (by decide) (by decide))
    refine RelV.Steps.cons (L := [5, 6]) rfl (by kernel_rfl) ?_ ?_
    · intro vals w' D hE hF hR K hK
      have r5 := hR.1
      have r6 := hR.2.1
      simp only [Rel.putL, Rel.dst, z1, z2, z3, z4, Act.put, z5, z6, z7] at hK ⊢
      go_simp
      go_at_call 122
      refine (H.out.2.2.pny r5 r6).mono ?_
      rintro e w2 ⟨v, rfl, hv, hb⟩
      exact hK _ _ hv hb (hE.step hb (by decide) (by decide))
    refine RelV.Steps.cons (L := [3, 7]) rfl (by kernel_rfl) ?_ ?_
    · intro vals w' D hE hF hR K hK
      have r3 := hR.1
      have r7 := hR.2.1
      simp only [Rel.putL, Rel.dst, z1, z2, z3, z4, Act.put, z5, z6, z7] at hK ⊢
      go_simp
      go_at_call 49
      refine (H.out.2.2.num r3 r7).mono ?_
      rintro e w2 ⟨v, rfl, hv, hb⟩
      exact hK _ _ hv hb (hE.step hb (by decide) (by decide))
    refine RelV.Steps.cons (L := []) rfl (by kernel_rfl) ?_ ?_
    · intro vals w' D hE hF hR K hK
      obtain ⟨s, A, l, c, c0, c1, hi⟩ := hE.1.int 3 rfl
      simp only [Rel.putL, Rel.dst, z1, z2, z3, z4, Act.put, z5, z6, z7] at hK ⊢
      go_simp
      exact hK _ _ hi (Below.refl _ _) (hE.same (by decide) (by decide))
    refine RelV.Steps.cons (L := []) rfl (by kernel_rfl) ?_ ?_
    · intro vals w' D hE hF hR K hK
      obtain ⟨s, A, l, c, c0, c1, hi⟩ := hE.1.int 6 rfl
      simp only [Rel.putL, Rel.dst, z1, z2, z3, z4, Act.put, z5, z6, z7] at hK ⊢
      go_simp
      exact hK _ _ hi (Below.refl _ _) (hE.same (by decide) (by decide))
    refine RelV.Steps.cons (L := [9, 10]) rfl (by kernel_rfl) ?_ ?_
    · intro vals w' D hE hF hR K hK
      have r9 := hR.1
      have r10 := hR.2.1
      simp only [Rel.putL, Rel.dst, z1, z2, z3, z4, Act.put, z5, z6, z7] at hK ⊢
      go_simp
      go_at_call 122
      refine (H.out.2.2.pdx r9 r10).mono ?_
      rintro e w2 ⟨v, rfl, hv, hb⟩
      exact hK _ _ hv hb (hE.step hb (by decide) (by decide))
    refine RelV.Steps.cons (L := []) rfl (by kernel_rfl) ?_ ?_
    · intro vals w' D hE hF hR K hK
      obtain ⟨s, A, l, c, c0, c1, hi⟩ := hE.1.int 4 rfl
      simp only [Rel.putL, Rel.dst, z1, z2, z3, z4, Act.put, z5, z6, z7] at hK ⊢
      go_simp
      exact hK _ _ hi (Below.refl _ _) (hE.same (by decide) (by decide))
    refine RelV.Steps.cons (L := []) rfl (by kernel_rfl) ?_ ?_
    · intro vals w' D hE hF hR K hK
      obtain ⟨s, A, l, c, c0, c1, hi⟩ := hE.1.int 5 rfl
      simp only [Rel.putL, Rel.dst, z1, z2, z3, z4, Act.put, z5, z6, z7] at hK ⊢
      go_simp
      exact hK _ _ hi (Below.refl _ _) (hE.same (by decide) (by decide))
    refine RelV.Steps.cons (L := [12, 13]) rfl (by kernel_rfl) ?_ ?_
    · intro vals w' D hE hF hR K hK
      have r12 := hR.1
      have r13 := hR.2.1
      simp only [Rel.putL, Rel.dst, z1, z2, z3, z4, Act.put, z5, z6, z7] at hK ⊢
      go_simp
      go_at_call 122
      refine (H.out.2.2.pdy r12 r13).mono ?_
      rintro e w2 ⟨v, rfl, hv, hb⟩
      exact hK _ _ hv hb (hE.step hb (by decide) (by decide))
    refine RelV.Steps.cons (L := [11, 14]) rfl (by kernel_rfl) ?_ ?_
    · intro vals w' D hE hF hR K hK
      have r11 := hR.1
      have r14 := hR.2.1
      simp only [Rel.putL, Rel.dst, z1, z2, z3, z4, Act.put, z5, z6, z7] at hK ⊢
      go_simp
      go_at_call 49
      refine (H.out.2.2.den r11 r14).mono ?_
      rintro e w2 ⟨v, rfl, hv, hb⟩
      exact hK _ _ hv hb (hE.step hb (by decide) (by decide))
    refine RelV.Steps.cons (L := [8, 15]) rfl (by kernel_rfl) ?_ ?_
    · intro vals w' D hE hF hR K hK
      have r8 := hR.1
      have r15 := hR.2.1
      obtain ⟨sn, An, ln, cn, en⟩ := r8.form
      rw [en] at r8
      obtain ⟨sd, Ad, ld, cd, ed⟩ := r15.form
      rw [ed] at r15
      simp only [Rel.putL, Rel.dst, z1, z2, z3, z4, Act.put, z5, z6, z7, en, ed] at hK ⊢
      go_simp
      exact hK _ _ (IsRat.mk r8 r15) (Below.refl _ _) (hE.same (by decide) (by decide))
    exact RelV.Steps.done
  · intro vals w1 D hD hE hR
    obtain ⟨r0, r1, r2, r3, r4, r5, r6, r7, r8, r9, r10, r11, r12, r13, r14, r15, r16, _⟩ := hR
    obtain ⟨sx, Ax, lx, cx, tx, Ax', lx', cx', ex⟩ := r16.shape
    rw [ex] at r16
    obtain ⟨m0, m1, m2, m3, d0, d1, d2, d3, f0, f1, f2, f3⟩ := hE.1.rhole 2 rfl
    have HV := Lib.hid (And.intro r16 hE.1)
    simp only [Rel.putL, Rel.dst, z1, z2, z3, z4, Act.put, z5, z6, z7, ex]
    clear hE hD r0 r1 r2 r3 r4 r5 r6 r7 r8 r9 r10 r11 r12 r13 r14 r15 r16
    go_wp2
    have hF := HV.out.2.rstored 2 rfl HV.out.1
    rw [show (((w1.setCell ⟨g4, 0, none⟩ (.int .i64 sx)).setCell ⟨g4, 1, none⟩ (.slice Ax lx cx)).setCell ⟨g4, 2, none⟩ (.int .i64 tx)).setCell ⟨g4, 3, none⟩ (.slice Ax' lx' cx') = stRat w1 g4 sx Ax lx cx tx Ax' lx' cx' from rfl]
    generalize stRat w1 g4 sx Ax lx cx tx Ax' lx' cx' = W3 at *
    obtain ⟨z0, z1, z2, z3, z4, z5⟩ := hF
    exact bodyPost_ret (v := .agg #[.int .i64 sx, .slice Ax lx cx, .int .i64 tx, .slice Ax' lx' cx']) (by simp [results, Tryz.results143, go_sem, z0, z1, z2, z3]) rfl ⟨_, rfl, z4, z5.below⟩
end Go.Proofs.YtjghgbfagjhdgaaGreatDoor
