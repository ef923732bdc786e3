/- Plus of fractions. -/
import Derived.Test.YtjghgbfagjhdgaaGreatDoorRatAB
namespace Go.Proofs.YtjghgbfagjhdgaaGreatDoor
open Go Go.RowKit

set_option linter.unusedSimpArgs false in
set_option maxHeartbeats 4000000 in
set_option maxRecDepth 100000 in
theorem qplus_any {w : World} {a b : Value} {x y : Rat} {k : Nat} (ha : IsRat w a x) (hb : IsRat w b y) (hx : F.Lt (M.B ^ k) x) (hy : F.Lt (M.B ^ k) y) (hk1 : 1 ≤ k) (hk : k ≤ 14000) :
    Calls Tryz.prog 140 #[a, b] w fun e w' => ∃ v, e = .returned v ∧ IsRat w' v (x + y) ∧ Below w.heap.size w w' := by
  obtain ⟨s, A, l, c, t, A', l', c', rfl⟩ := ha.shape
  obtain ⟨s1, A1, l1, c1, t1, A1', l1', c1', rfl⟩ := hb.shape
  obtain ⟨G, RX, RY, N, T, hPH⟩ := PH.start hx hy hk1 hk
  have H := Lib.hid (And.intro ha (And.intro hb hPH))
  clear ha hb hx hy hPH
  go_enter Tryz.func140, Tryz.ntmps140
  go_upto_region 0 with fail
  go_cut [2, 3, 4] from 11 (fun s2 s3 s4 wx => ∃ g2 g3 g4 : Nat, s2 = .pointer (some ⟨g2, 0, none⟩) ∧ s3 = .pointer (some ⟨g3, 0, none⟩) ∧ s4 = .pointer (some ⟨g4, 0, none⟩) ∧ Pls w [(g2, .rat x), (g3, .rat y), (g4, .rhole)] wx)
  case first =>
    go_wp2_with fail
    go_meet
    exact ⟨_, _, _, rfl, rfl, rfl, (((Pls.start w).boxRat H.out.1 rfl).boxRat (H.out.2.1.below ((Below.refl _ _).alloc (Nat.le_refl _) _)) (by simp)).newRhole (by simp)⟩
  obtain ⟨g2, g3, g4, rfl, rfl, rfl, hP⟩ := hcut
  go_upto_region 1 with fail
  go_cut [5, 6] from 11 (fun s5 s6 wx => ∃ g5 g6 : Nat, s5 = .pointer (some ⟨g5, 0, none⟩) ∧ s6 = .pointer (some ⟨g6, 0, none⟩) ∧ Pls w [(g2, .rat x), (g3, .rat y), (g4, .rhole), (g5, .int (x.den : Int)), (g6, .int (y.den : Int))] wx)
  case first =>
    refine RelV.region_rest 6 [0, 1, 2, 3, 4, 5] _ rfl rfl (R := [fun v w => IsRat w v (x), fun v w => IsInt w v (x.den : Int), fun v w => IsRat w v (y), fun v w => IsInt w v (y.den : Int), NewAt wc.heap.size .hole, NewAt wc.heap.size .hole])
      (E := RE w [(g2, .rat x), (g3, .rat y), (g4, .rhole)] wc.heap.size 4 5) (T := fun w w' => Below w.heap.size w w') (by kernel_rfl) (by kernel_rfl) (by kernel_rfl) (RE.start hP 4 5) ?_ ?_ ?_
    · intro D vals i v w1 w2 hi hE hT hv
      match i, hi with
      | 0, _ | 2, _ => exact IsRat.below hv hT
      | 1, _ | 3, _ => exact IsInt.below hv hT (Nat.le_refl _)
      | 4, _ | 5, _ => exact NewAt.below hv hT
      | i + 6, hi => exact absurd hi (by omega)
    · refine RelV.Steps.cons (L := []) rfl (by kernel_rfl) ?_ ?_
      · intro vals w' D hE hF hR K hK
        obtain ⟨s, A, l, c, t, A', l', c', c0, c1, c2, c3, hi⟩ := hE.1.rat 0 rfl
        simp only [Rel.putL, Rel.dst, z1, z2, z3, z4, Act.put, z5, z6, z7] at hK ⊢
        go_simp
        exact hK _ _ hi (Below.refl _ _) (hE.same (by decide) (by decide))
      refine RelV.Steps.cons (L := [0]) rfl (by kernel_rfl) ?_ ?_
      · intro vals w' D hE hF hR K hK
        have r0 := hR.1
        simp only [Rel.putL, Rel.dst, z1, z2, z3, z4, Act.put, z5, z6, z7] at hK ⊢
        go_simp
        go_at_call 106
        refine (den_any r0).mono ?_
        rintro e w2 ⟨v, rfl, hv, hb⟩
        exact hK _ _ hv hb (hE.step hb (by decide) (by decide))
      refine RelV.Steps.cons (L := []) rfl (by kernel_rfl) ?_ ?_
      · intro vals w' D hE hF hR K hK
        obtain ⟨s, A, l, c, t, A', l', c', c0, c1, c2, c3, hi⟩ := hE.1.rat 1 rfl
        simp only [Rel.putL, Rel.dst, z1, z2, z3, z4, Act.put, z5, z6, z7] at hK ⊢
        go_simp
        exact hK _ _ hi (Below.refl _ _) (hE.same (by decide) (by decide))
      refine RelV.Steps.cons (L := [2]) rfl (by kernel_rfl) ?_ ?_
      · intro vals w' D hE hF hR K hK
        have r2 := hR.1
        simp only [Rel.putL, Rel.dst, z1, z2, z3, z4, Act.put, z5, z6, z7] at hK ⊢
        go_simp
        go_at_call 106
        refine (den_any r2).mono ?_
        rintro e w2 ⟨v, rfl, hv, hb⟩
        exact hK _ _ hv hb (hE.step hb (by decide) (by decide))
      refine RelV.Steps.cons (L := []) rfl (by kernel_rfl) ?_ ?_
      · intro vals w' D hE hF hR K hK
        simp only [Rel.putL, Rel.dst, z1, z2, z3, z4, Act.put, z5, z6, z7] at hK ⊢
        go_simp
        exact hK _ _ hE.newHole ((Below.refl _ _).alloc (Nat.le_refl _) _) (hE.first (by decide) _)
      refine RelV.Steps.cons (L := []) rfl (by kernel_rfl) ?_ ?_
      · intro vals w' D hE hF hR K hK
        simp only [Rel.putL, Rel.dst, z1, z2, z3, z4, Act.put, z5, z6, z7] at hK ⊢
        go_simp
        exact hK _ _ hE.newHole ((Below.refl _ _).alloc (Nat.le_refl _) _) (hE.second (by decide) _)
      exact RelV.Steps.done
    · intro vals w1 D hD hE hR
      obtain ⟨r0, r1, r2, r3, r4, r5, _⟩ := hR
      obtain ⟨g5, e5, n5, a5⟩ := r4
      obtain ⟨g6, e6, n6, a6⟩ := r5
      obtain ⟨hP1, hne⟩ := hE.two ((hD 4).2 (by omega)) ((hD 5).2 (by omega)) e5 n5 a5 e6 n6 a6
      obtain ⟨p1, A1, l1, c1, e1⟩ := r1.form
      rw [e1] at r1
      obtain ⟨p3, A3, l3, c3, e3⟩ := r3.form
      rw [e3] at r3
      obtain ⟨m0, m1, d0, d1, f0, f1⟩ := hP1.hole 3 rfl
      have hP2 := hP1.storeInt 3 rfl r1
      obtain ⟨v0, v1, b0, b1, k0, k1⟩ := hP2.hole 4 rfl
      have HQ := Lib.hid (hP2.storeInt 4 rfl (hP1.keepInt 3 rfl p1 A1 l1 c1 r3))
      unfold stInt at b0 b1 k0 k1
      simp only [Rel.putL, Rel.dst, z1, z2, z3, z4, Act.put, z5, z6, z7, e1, e3, e5, e6]
      clear hE hD hP1 hP2 hne r0 r1 r2 r3
      go_wp2_with fail
      go_meet
      exact ⟨_, _, rfl, rfl, HQ.out⟩
  clear hP
  obtain ⟨g5, g6, rfl, rfl, hP⟩ := hcut
  go_upto_region 2 with fail
  go_cut [7] from 11 (fun s7 wx => ∃ g7 : Nat, s7 = .pointer (some ⟨g7, 0, none⟩) ∧ Pls w [(g2, .rat x), (g3, .rat y), (g4, .rhole), (g5, .int (x.den : Int)), (g6, .int (y.den : Int)), (g7, .int G)] wx)
  case first =>
    obtain ⟨s, A, l, c, c0, c1, hi⟩ := hP.int 3 rfl
    obtain ⟨t, A', l', c', c2, c3, hj⟩ := hP.int 4 rfl
    have HP := Lib.hid hP
    clear hP
    go_wp2_with fail
    refine (H.out.2.2.common hi hj).mono ?_
    rintro e w1 ⟨v, rfl, hv, hb⟩
    obtain ⟨sv, Av, lv, cv, rfl⟩ := hv.form
    have HR := Lib.hid (And.intro (HP.out.next hb) hv)
    clear hv hb
    go_wp2_with fail
    go_meet
    exact ⟨_, rfl, HR.out.1.boxInt HR.out.2 rfl⟩
  clear hP
  obtain ⟨g7, rfl, hP⟩ := hcut
  go_upto_region 3 with fail
  go_cut [8] from 11 (fun s8 wx => ∃ g8 : Nat, s8 = .pointer (some ⟨g8, 0, none⟩) ∧ Pls w [(g2, .rat x), (g3, .rat y), (g4, .rhole), (g5, .int (x.den : Int)), (g6, .int (y.den : Int)), (g7, .int G), (g8, .int RX)] wx)
  case first =>
    obtain ⟨s, A, l, c, c0, c1, hi⟩ := hP.int 3 rfl
    obtain ⟨t, A', l', c', c2, c3, hj⟩ := hP.int 5 rfl
    have HP := Lib.hid hP
    clear hP
    go_wp2_with fail
    refine (H.out.2.2.restx hi hj).mono ?_
    rintro e w1 ⟨v, rfl, hv, hb⟩
    obtain ⟨sv, Av, lv, cv, rfl⟩ := hv.form
    have HR := Lib.hid (And.intro (HP.out.next hb) hv)
    clear hv hb
    go_wp2_with fail
    go_meet
    exact ⟨_, rfl, HR.out.1.boxInt HR.out.2 rfl⟩
  clear hP
  obtain ⟨g8, rfl, hP⟩ := hcut
  go_upto_region 4 with fail
  go_cut [9] from 11 (fun s9 wx => ∃ g9 : Nat, s9 = .pointer (some ⟨g9, 0, none⟩) ∧ Pls w [(g2, .rat x), (g3, .rat y), (g4, .rhole), (g5, .int (x.den : Int)), (g6, .int (y.den : Int)), (g7, .int G), (g8, .int RX), (g9, .int N)] wx)
  case first =>
    refine RelV.region_rest 12 [0, 1, 2, 3, 4, 5, 6, 7, 8, 9, 10, 11] _ rfl rfl (R := [fun v _ => v = .pointer (some ⟨g2, 0, none⟩), fun v w => IsInt w v (x).num, fun v w => IsInt w v ((y.den : Int)), fun v w => IsInt w v (G), fun v w => IsInt w v RY, fun v w => IsInt w v (x.num * RY), fun v _ => v = .pointer (some ⟨g3, 0, none⟩), fun v w => IsInt w v (y).num, fun v w => IsInt w v (RX), fun v w => IsInt w v (y.num * RX), fun v w => IsInt w v N, NewAt wc.heap.size .hole])
      (E := RE w [(g2, .rat x), (g3, .rat y), (g4, .rhole), (g5, .int (x.den : Int)), (g6, .int (y.den : Int)), (g7, .int G), (g8, .int RX)] wc.heap.size 11 12) (T := fun w w' => Below w.heap.size w w') (by kernel_rfl) (by kernel_rfl) (by kernel_rfl) (RE.start hP 11 12) ?_ ?_ ?_
    · intro D vals i v w1 w2 hi hE hT hv
      match i, hi with
      | 1, _ | 2, _ | 3, _ | 4, _ | 5, _ | 7, _ | 8, _ | 9, _ | 10, _ => exact IsInt.below hv hT (Nat.le_refl _)
      | 11, _ => exact NewAt.below hv hT
      | 0, _ | 6, _ => exact hv
      | i + 12, hi => exact absurd hi (by omega)
    · refine RelV.Steps.cons (L := []) rfl (by kernel_rfl) ?_ ?_
      · intro vals w' D hE hF hR K hK
        simp only [Rel.putL, Rel.dst, z1, z2, z3, z4, Act.put, z5, z6, z7] at hK ⊢
        go_simp
        exact hK _ _ rfl (Below.refl _ _) (hE.same (by decide) (by decide))
      refine RelV.Steps.cons (L := [0]) rfl (by kernel_rfl) ?_ ?_
      · intro vals w' D hE hF hR K hK
        have d0 : vals 0 = .pointer (some ⟨g2, 0, none⟩) := hR.1
        obtain ⟨s, A, l, c, t, A', l', c', c0, c1, c2, c3, hi⟩ := hE.1.rat 0 rfl
        simp only [Rel.putL, Rel.dst, z1, z2, z3, z4, Act.put, z5, z6, z7, d0] at hK ⊢
        go_simp
        exact hK _ _ hi.num (Below.refl _ _) (hE.same (by decide) (by decide))
      refine RelV.Steps.cons (L := []) rfl (by kernel_rfl) ?_ ?_
      · intro vals w' D hE hF hR K hK
        obtain ⟨s, A, l, c, c0, c1, hi⟩ := hE.1.int 4 rfl
        simp only [Rel.putL, Rel.dst, z1, z2, z3, z4, Act.put, z5, z6, z7] at hK ⊢
        go_simp
        exact hK _ _ hi (Below.refl _ _) (hE.same (by decide) (by decide))
      refine RelV.Steps.cons (L := []) rfl (by kernel_rfl) ?_ ?_
      · intro vals w' D hE hF hR K hK
        obtain ⟨s, A, l, c, c0, c1, hi⟩ := hE.1.int 5 rfl
        simp only [Rel.putL, Rel.dst, z1, z2, z3, z4, Act.put, z5, z6, z7] at hK ⊢
        go_simp
        exact hK _ _ hi (Below.refl _ _) (hE.same (by decide) (by decide))
      refine RelV.Steps.cons (L := [2, 3]) rfl (by kernel_rfl) ?_ ?_
      · intro vals w' D hE hF hR K hK
        have r2 := hR.1
        have r3 := hR.2.1
        simp only [Rel.putL, Rel.dst, z1, z2, z3, z4, Act.put, z5, z6, z7] at hK ⊢
        go_simp
        go_at_call 122
        refine (H.out.2.2.resty r2 r3).mono ?_
        rintro e w2 ⟨v, rfl, hv, hb⟩
        exact hK _ _ hv hb (hE.step hb (by decide) (by decide))
      refine RelV.Steps.cons (L := [1, 4]) rfl (by kernel_rfl) ?_ ?_
      · intro vals w' D hE hF hR K hK
        have r1 := hR.1
        have r4 := hR.2.1
        simp only [Rel.putL, Rel.dst, z1, z2, z3, z4, Act.put, z5, z6, z7] at hK ⊢
        go_simp
        go_at_call 49
        refine (H.out.2.2.mulx r1 r4).mono ?_
        rintro e w2 ⟨v, rfl, hv, hb⟩
        exact hK _ _ hv hb (hE.step hb (by decide) (by decide))
      refine RelV.Steps.cons (L := []) rfl (by kernel_rfl) ?_ ?_
      · intro vals w' D hE hF hR K hK
        simp only [Rel.putL, Rel.dst, z1, z2, z3, z4, Act.put, z5, z6, z7] at hK ⊢
        go_simp
        exact hK _ _ rfl (Below.refl _ _) (hE.same (by decide) (by decide))
      refine RelV.Steps.cons (L := [6]) rfl (by kernel_rfl) ?_ ?_
      · intro vals w' D hE hF hR K hK
        have d6 : vals 6 = .pointer (some ⟨g3, 0, none⟩) := hR.1
        obtain ⟨s, A, l, c, t, A', l', c', c0, c1, c2, c3, hi⟩ := hE.1.rat 1 rfl
        simp only [Rel.putL, Rel.dst, z1, z2, z3, z4, Act.put, z5, z6, z7, d6] at hK ⊢
        go_simp
        exact hK _ _ hi.num (Below.refl _ _) (hE.same (by decide) (by decide))
      refine RelV.Steps.cons (L := []) rfl (by kernel_rfl) ?_ ?_
      · intro vals w' D hE hF hR K hK
        obtain ⟨s, A, l, c, c0, c1, hi⟩ := hE.1.int 6 rfl
        simp only [Rel.putL, Rel.dst, z1, z2, z3, z4, Act.put, z5, z6, z7] at hK ⊢
        go_simp
        exact hK _ _ hi (Below.refl _ _) (hE.same (by decide) (by decide))
      refine RelV.Steps.cons (L := [7, 8]) rfl (by kernel_rfl) ?_ ?_
      · intro vals w' D hE hF hR K hK
        have r7 := hR.1
        have r8 := hR.2.1
        simp only [Rel.putL, Rel.dst, z1, z2, z3, z4, Act.put, z5, z6, z7] at hK ⊢
        go_simp
        go_at_call 49
        refine (H.out.2.2.muly r7 r8).mono ?_
        rintro e w2 ⟨v, rfl, hv, hb⟩
        exact hK _ _ hv hb (hE.step hb (by decide) (by decide))
      refine RelV.Steps.cons (L := [5, 9]) rfl (by kernel_rfl) ?_ ?_
      · intro vals w' D hE hF hR K hK
        have r5 := hR.1
        have r9 := hR.2.1
        simp only [Rel.putL, Rel.dst, z1, z2, z3, z4, Act.put, z5, z6, z7] at hK ⊢
        go_simp
        go_at_call 169
        refine (H.out.2.2.sum r5 r9).mono ?_
        rintro e w2 ⟨v, rfl, hv, hb⟩
        exact hK _ _ hv hb (hE.step hb (by decide) (by decide))
      refine RelV.Steps.cons (L := []) rfl (by kernel_rfl) ?_ ?_
      · intro vals w' D hE hF hR K hK
        simp only [Rel.putL, Rel.dst, z1, z2, z3, z4, Act.put, z5, z6, z7] at hK ⊢
        go_simp
        exact hK _ _ hE.newHole ((Below.refl _ _).alloc (Nat.le_refl _) _) (hE.first (by decide) _)
      exact RelV.Steps.done
    · intro vals w1 D hD hE hR
      obtain ⟨r0, r1, r2, r3, r4, r5, r6, r7, r8, r9, r10, r11, _⟩ := hR
      obtain ⟨g9, e9, n9, a9⟩ := r11
      have hP1 := hE.one n9 a9
      obtain ⟨p1, A1, l1, c1, e1⟩ := r10.form
      rw [e1] at r10
      obtain ⟨m0, m1, d0, d1, f0, f1⟩ := hP1.hole 7 rfl
      have HQ := Lib.hid (hP1.storeInt 7 rfl r10)
      simp only [Rel.putL, Rel.dst, z1, z2, z3, z4, Act.put, z5, z6, z7, e1, e9]
      clear hE hD hP1 r0 r1 r2 r3 r4 r5 r6 r7 r8 r9 r10
      go_wp2_with fail
      go_meet
      exact ⟨_, rfl, HQ.out⟩
  clear hP
  obtain ⟨g9, rfl, hP⟩ := hcut
  go_upto_region 5 with fail
  go_cut [10] from 11 (fun s10 wx => ∃ g10 : Nat, s10 = .pointer (some ⟨g10, 0, none⟩) ∧ Pls w [(g2, .rat x), (g3, .rat y), (g4, .rhole), (g5, .int (x.den : Int)), (g6, .int (y.den : Int)), (g7, .int G), (g8, .int RX), (g9, .int N), (g10, .int T)] wx)
  case first =>
    obtain ⟨s, A, l, c, c0, c1, hi⟩ := hP.int 7 rfl
    obtain ⟨t, A', l', c', c2, c3, hj⟩ := hP.int 5 rfl
    have HP := Lib.hid hP
    clear hP
    go_wp2_with fail
    refine (H.out.2.2.tee hi hj).mono ?_
    rintro e w1 ⟨v, rfl, hv, hb⟩
    obtain ⟨sv, Av, lv, cv, rfl⟩ := hv.form
    have HR := Lib.hid (And.intro (HP.out.next hb) hv)
    clear hv hb
    go_wp2_with fail
    go_meet
    exact ⟨_, rfl, HR.out.1.boxInt HR.out.2 rfl⟩
  clear hP
  obtain ⟨g10, rfl, hP⟩ := hcut
  go_upto_region 6 with fail
  refine RelV.region_rest 9 [0, 1, 2, 3, 4, 5, 6, 7, 8] _ rfl rfl (R := [fun v w => IsInt w v (N), fun v w => IsInt w v (T), fun v w => IsInt w v (x + y).num, fun v w => IsInt w v (RX), fun v w => IsInt w v ((y.den : Int)), fun v w => IsInt w v (T), fun v w => IsInt w v ((y.den / F.pt x y : Nat) : Int), fun v w => IsInt w v ((x + y).den : Int), fun v w => IsRat w v (x + y)])
    (E := RE w [(g2, .rat x), (g3, .rat y), (g4, .rhole), (g5, .int (x.den : Int)), (g6, .int (y.den : Int)), (g7, .int G), (g8, .int RX), (g9, .int N), (g10, .int T)] wc.heap.size 1000 1001) (T := fun w w' => Below w.heap.size w w') (by kernel_rfl) (by kernel_rfl) (by kernel_rfl) (RE.start hP 1000 1001) ?_ ?_ ?_
  · intro D vals i v w1 w2 hi hE hT hv
    match i, hi with
    | 8, _ => exact IsRat.below hv hT
    | 0, _ | 1, _ | 2, _ | 3, _ | 4, _ | 5, _ | 6, _ | 7, _ => exact IsInt.below hv hT (Nat.le_refl _)
    | i + 9, hi => exact absurd hi (by omega)
  · refine RelV.Steps.cons (L := []) rfl (by kernel_rfl) ?_ ?_
    · intro vals w' D hE hF hR K hK
      obtain ⟨s, A, l, c, c0, c1, hi⟩ := hE.1.int 7 rfl
      simp only [Rel.putL, Rel.dst, z1, z2, z3, z4, Act.put, z5, z6, z7] at hK ⊢
      go_simp
      exact hK _ _ hi (Below.refl _ _) (hE.same (by decide) (by decide))
    refine RelV.Steps.cons (L := []) rfl (by kernel_rfl) ?_ ?_
    · intro vals w' D hE hF hR K hK
      obtain ⟨s, A, l, c, c0, c1, hi⟩ := hE.1.int 8 rfl
      simp only [Rel.putL, Rel.dst, z1, z2, z3, z4, Act.put, z5, z6, z7] at hK ⊢
      go_simp
      exact hK _ _ hi (Below.refl _ _) (hE.same (by decide) (by decide))
    refine RelV.Steps.cons (L := [0, 1]) rfl (by kernel_rfl) ?_ ?_
    · intro vals w' D hE hF hR K hK
      have r0 := hR.1
      have r1 := hR.2.1
      simp only [Rel.putL, Rel.dst, z1, z2, z3, z4, Act.put, z5, z6, z7] at hK ⊢
      go_simp
      go_at_call 122
      refine (H.out.2.2.num r0 r1).mono ?_
      rintro e w2 ⟨v, rfl, hv, hb⟩
      exact hK _ _ hv hb (hE.step hb (by decide) (by decide))
    refine RelV.Steps.cons (L := []) rfl (by kernel_rfl) ?_ ?_
    · intro vals w' D hE hF hR K hK
      obtain ⟨s, A, l, c, c0, c1, hi⟩ := hE.1.int 6 rfl
      simp only [Rel.putL, Rel.dst, z1, z2, z3, z4, Act.put, z5, z6, z7] at hK ⊢
      go_simp
      exact hK _ _ hi (Below.refl _ _) (hE.same (by decide) (by decide))
    refine RelV.Steps.cons (L := []) rfl (by kernel_rfl) ?_ ?_
    · intro vals w' D hE hF hR K hK
      obtain ⟨s, A, l, c, c0, c1, hi⟩ := hE.1.int 4 rfl
      simp only [Rel.putL, Rel.dst, z1, z2, z3, z4, Act.put, z5, z6, z7] at hK ⊢
      go_simp
      exact hK _ _ hi (Below.refl _ _) (hE.same (by decide) (by decide))
    refine RelV.Steps.cons (L := []) rfl (by kernel_rfl) ?_ ?_
    · intro vals w' D hE hF hR K hK
      obtain ⟨s, A, l, c, c0, c1, hi⟩ := hE.1.int 8 rfl
      simp only [Rel.putL, Rel.dst, z1, z2, z3, z4, Act.put, z5, z6, z7] at hK ⊢
      go_simp
      exact hK _ _ hi (Below.refl _ _) (hE.same (by decide) (by decide))
    refine RelV.Steps.cons (L := [4, 5]) rfl (by kernel_rfl) ?_ ?_
    · intro vals w' D hE hF hR K hK
      have r4 := hR.1
      have r5 := hR.2.1
      simp only [Rel.putL, Rel.dst, z1, z2, z3, z4, Act.put, z5, z6, z7] at hK ⊢
      go_simp
      go_at_call 122
      refine (H.out.2.2.part_y r4 r5).mono ?_
      rintro e w2 ⟨v, rfl, hv, hb⟩
      exact hK _ _ hv hb (hE.step hb (by decide) (by decide))
    refine RelV.Steps.cons (L := [3, 6]) rfl (by kernel_rfl) ?_ ?_
    · intro vals w' D hE hF hR K hK
      have r3 := hR.1
      have r6 := hR.2.1
      simp only [Rel.putL, Rel.dst, z1, z2, z3, z4, Act.put, z5, z6, z7] at hK ⊢
      go_simp
      go_at_call 49
      refine (H.out.2.2.den r3 r6).mono ?_
      rintro e w2 ⟨v, rfl, hv, hb⟩
      exact hK _ _ hv hb (hE.step hb (by decide) (by decide))
    refine RelV.Steps.cons (L := [2, 7]) rfl (by kernel_rfl) ?_ ?_
    · intro vals w' D hE hF hR K hK
      have r2 := hR.1
      have r7 := hR.2.1
      obtain ⟨sn, An, ln, cn, en⟩ := r2.form
      rw [en] at r2
      obtain ⟨sd, Ad, ld, cd, ed⟩ := r7.form
      rw [ed] at r7
      simp only [Rel.putL, Rel.dst, z1, z2, z3, z4, Act.put, z5, z6, z7, en, ed] at hK ⊢
      go_simp
      exact hK _ _ (IsRat.mk r2 r7) (Below.refl _ _) (hE.same (by decide) (by decide))
    exact RelV.Steps.done
  · intro vals w1 D hD hE hR
    obtain ⟨r0, r1, r2, r3, r4, r5, r6, r7, r8, _⟩ := hR
    obtain ⟨sx, Ax, lx, cx, tx, Ax', lx', cx', ex⟩ := r8.shape
    rw [ex] at r8
    obtain ⟨m0, m1, m2, m3, d0, d1, d2, d3, f0, f1, f2, f3⟩ := hE.1.rhole 2 rfl
    have HV := Lib.hid (And.intro r8 hE.1)
    simp only [Rel.putL, Rel.dst, z1, z2, z3, z4, Act.put, z5, z6, z7, ex]
    clear hE hD r0 r1 r2 r3 r4 r5 r6 r7 r8
    go_wp2
    have hF := HV.out.2.rstored 2 rfl HV.out.1
    rw [show (((w1.setCell ⟨g4, 0, none⟩ (.int .i64 sx)).setCell ⟨g4, 1, none⟩ (.slice Ax lx cx)).setCell ⟨g4, 2, none⟩ (.int .i64 tx)).setCell ⟨g4, 3, none⟩ (.slice Ax' lx' cx') = stRat w1 g4 sx Ax lx cx tx Ax' lx' cx' from rfl]
    generalize stRat w1 g4 sx Ax lx cx tx Ax' lx' cx' = W3 at *
    obtain ⟨z0, z1, z2, z3, z4, z5⟩ := hF
    exact bodyPost_ret (v := .agg #[.int .i64 sx, .slice Ax lx cx, .int .i64 tx, .slice Ax' lx' cx']) (by simp [results, Tryz.results140, go_sem, z0, z1, z2, z3]) rfl ⟨_, rfl, z4, z5.below⟩
end Go.Proofs.YtjghgbfagjhdgaaGreatDoor
