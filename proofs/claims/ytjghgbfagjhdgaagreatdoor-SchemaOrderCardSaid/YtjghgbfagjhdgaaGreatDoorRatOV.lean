/- Negated, Minus, Whole, Compare of fractions. Over of fractions; MakeRat. -/
import Derived.Test.YtjghgbfagjhdgaaGreatDoorRatP
import Derived.Test.YtjghgbfagjhdgaaGreatDoorRatQ
import Derived.Test.YtjghgbfagjhdgaaGreatDoorIntH
namespace Go.Proofs.YtjghgbfagjhdgaaGreatDoor
open Go Go.RowKit

set_option linter.unusedSimpArgs false in
set_option maxHeartbeats 4000000 in
set_option maxRecDepth 100000 in
theorem whole_any {w : World} {a : Value} {z : Int} (ha : IsInt w a z) :
    Calls Tryz.prog 189 #[a] w fun e w' => ∃ v, e = .returned v ∧ IsRat w' v (z : Rat) ∧ Below w.heap.size w w' := by
  obtain ⟨s, A, l, c, rfl⟩ := ha.form
  have H := Lib.hid ha
  clear ha
  go_enter Tryz.func189, Tryz.ntmps189
  go_upto_region 0 with fail
  go_cut [1, 2] from 3 (fun s1 s2 wx => ∃ g1 g2 : Nat, s1 = .pointer (some ⟨g1, 0, none⟩) ∧ s2 = .pointer (some ⟨g2, 0, none⟩) ∧ Pls w [(g1, .int z), (g2, .rhole)] wx)
  case first =>
    go_wp2_with fail
    go_meet
    exact ⟨_, _, rfl, rfl, ((Pls.start w).boxInt H.out rfl).newRhole (by simp)⟩
  obtain ⟨g1, g2, rfl, rfl, hP⟩ := hcut
  go_upto_region 1 with fail
  refine RelV.region_rest 3 [0, 1, 2] _ rfl rfl (R := [fun v w => IsInt w v (z), fun v w => IsInt w v 1, fun v w => IsRat w v ((z : Rat))])
    (E := RE w [(g1, .int z), (g2, .rhole)] wc.heap.size 1000 1001) (T := fun w w' => Below w.heap.size w w') (by kernel_rfl) (by kernel_rfl) (by kernel_rfl) (RE.start hP 1000 1001) ?_ ?_ ?_
  · intro D vals i v w1 w2 hi hE hT hv
    match i, hi with
    | 2, _ => exact IsRat.below hv hT
    | 0, _ | 1, _ => exact IsInt.below hv hT (Nat.le_refl _)
    | i + 3, hi => exact absurd hi (by omega)
  · refine RelV.Steps.cons (L := []) rfl (by kernel_rfl) ?_ ?_
    · intro vals w' D hE hF hR K hK
      obtain ⟨s, A, l, c, c0, c1, hi⟩ := hE.1.int 0 rfl
      simp only [Rel.putL, Rel.dst, z1, z2, z3, z4, Act.put, z5, z6, z7] at hK ⊢
      go_simp
      exact hK _ _ hi (Below.refl _ _) (hE.same (by decide) (by decide))
    refine RelV.Steps.cons (L := []) rfl (by kernel_rfl) ?_ ?_
    · intro vals w' D hE hF hR K hK
      simp only [Rel.putL, Rel.dst, z1, z2, z3, z4, Act.put, z5, z6, z7] at hK ⊢
      go_simp
      go_at_call 47
      refine (make_any (z := 1) (by decide) (by decide)).mono ?_
      rintro e w2 ⟨v, rfl, hv, hb⟩
      exact hK _ _ hv hb (hE.step hb (by decide) (by decide))
    refine RelV.Steps.cons (L := [0, 1]) rfl (by kernel_rfl) ?_ ?_
    · intro vals w' D hE hF hR K hK
      have r0 := hR.1
      have r1 := hR.2.1
      obtain ⟨sn, An, ln, cn, en⟩ := r0.form
      rw [en] at r0
      obtain ⟨sd, Ad, ld, cd, ed⟩ := r1.form
      rw [ed] at r1
      simp only [Rel.putL, Rel.dst, z1, z2, z3, z4, Act.put, z5, z6, z7, en, ed] at hK ⊢
      go_simp
      exact hK _ _ (IsRat.mk (x := (z : Rat)) r0 r1) (Below.refl _ _) (hE.same (by decide) (by decide))
    exact RelV.Steps.done
  · intro vals w1 D hD hE hR
    obtain ⟨r0, r1, r2, _⟩ := hR
    obtain ⟨sx, Ax, lx, cx, tx, Ax', lx', cx', ex⟩ := r2.shape
    rw [ex] at r2
    obtain ⟨m0, m1, m2, m3, d0, d1, d2, d3, f0, f1, f2, f3⟩ := hE.1.rhole 1 rfl
    have HV := Lib.hid (And.intro r2 hE.1)
    simp only [Rel.putL, Rel.dst, z1, z2, z3, z4, Act.put, z5, z6, z7, ex]
    clear hE hD r0 r1 r2
    go_wp2
    have hF := HV.out.2.rstored 1 rfl HV.out.1
    rw [show (((w1.setCell ⟨g2, 0, none⟩ (.int .i64 sx)).setCell ⟨g2, 1, none⟩ (.slice Ax lx cx)).setCell ⟨g2, 2, none⟩ (.int .i64 tx)).setCell ⟨g2, 3, none⟩ (.slice Ax' lx' cx') = stRat w1 g2 sx Ax lx cx tx Ax' lx' cx' from rfl]
    generalize stRat w1 g2 sx Ax lx cx tx Ax' lx' cx' = W3 at *
    obtain ⟨z0, z1, z2, z3, z4, z5⟩ := hF
    exact bodyPost_ret (v := .agg #[.int .i64 sx, .slice Ax lx cx, .int .i64 tx, .slice Ax' lx' cx']) (by simp [results, Tryz.results189, go_sem, z0, z1, z2, z3]) rfl ⟨_, rfl, z4, z5.below⟩

end Go.Proofs.YtjghgbfagjhdgaaGreatDoor
namespace Go.Proofs.YtjghgbfagjhdgaaGreatDoor
open Go Go.RowKit

theorem inv_num_pos {y : Rat} (h : 0 < y.num) : (y⁻¹).num = (y.den : Int) ∧ ((y⁻¹).den : Int) = y.num := by
  obtain ⟨e1, e2⟩ := F.inv_pos h
  exact ⟨e1, by rw [e2]; omega⟩
theorem inv_num_neg {y : Rat} (h : y.num < 0) : (y⁻¹).num = -(y.den : Int) ∧ ((y⁻¹).den : Int) = -y.num := by
  obtain ⟨e1, e2⟩ := F.inv_neg h
  exact ⟨e1, by rw [e2]; omega⟩
set_option linter.unusedSimpArgs false in
set_option maxHeartbeats 4000000 in
set_option maxRecDepth 100000 in
theorem makeRat_any {w : World} {a b : Value} {p q : Int} {k : Nat} (ha : IsInt w a p) (hb : IsInt w b q) (hq0 : q ≠ 0) (hp : p.natAbs < M.B ^ k) (hq : q.natAbs < M.B ^ k) (hk1 : 1 ≤ k) (hk : k ≤ 14000) :
    Calls Tryz.prog 50 #[a, b] w fun e w' => ∃ v, e = .returned v ∧ IsRat w' v (Rat.divInt p q) ∧ Below w.heap.size w w' := by
  obtain ⟨s, A, l, c, rfl⟩ := ha.form
  obtain ⟨s1, A1, l1, c1, rfl⟩ := hb.form
  obtain ⟨G, hG⟩ : ∃ G : Int, G = ((Nat.gcd p.natAbs q.natAbs : Nat) : Int) := ⟨_, rfl⟩
  have hGp : 0 < Nat.gcd p.natAbs q.natAbs := Nat.gcd_pos_of_pos_right _ (by omega)
  have hGk : G ≠ 0 ∧ G.natAbs < M.B ^ k := by
    have : Nat.gcd p.natAbs q.natAbs ≤ q.natAbs := Nat.gcd_le_right _ (by omega)
    rw [hG, Int.natAbs_natCast]
    exact ⟨by omega, by omega⟩
  have H := Lib.hid (And.intro ha (And.intro hb (And.intro hp (And.intro hq (And.intro hG (And.intro hGk hq0))))))
  clear ha hb hp hq hG hGk hGp
  go_enter Tryz.func50, Tryz.ntmps50
  go_upto_region 0 with fail
  go_cut [2, 3, 4] from 6 (fun s2 s3 s4 wx => ∃ g2 g3 g4 : Nat, s2 = .pointer (some ⟨g2, 0, none⟩) ∧ s3 = .pointer (some ⟨g3, 0, none⟩) ∧ s4 = .pointer (some ⟨g4, 0, none⟩) ∧ Pls w [(g2, .int p), (g3, .int q), (g4, .rhole)] wx)
  case first =>
    go_wp2_with fail
    go_meet
    exact ⟨_, _, _, rfl, rfl, rfl, (((Pls.start w).boxInt H.out.1 rfl).boxInt (H.out.2.1.below ((Below.refl _ _).alloc (Nat.le_refl _) _) (Nat.le_refl _)) (by simp)).newRhole (by simp)⟩
  obtain ⟨g2, g3, g4, rfl, rfl, rfl, hP⟩ := hcut
  go_upto_region 1 with fail
  go_cut [5] from 6 (fun s5 wx => ∃ g5 : Nat, s5 = .pointer (some ⟨g5, 0, none⟩) ∧ Pls w [(g2, .int p), (g3, .int q), (g4, .rhole), (g5, .int G)] wx)
  case first =>
    obtain ⟨s, A, l, c, c0, c1, hi⟩ := hP.int 0 rfl
    obtain ⟨t, A', l', c', c2, c3, hj⟩ := hP.int 1 rfl
    have HP := Lib.hid hP
    clear hP
    go_wp2_with fail
    refine (gcd_G H.out.2.2.2.2.1 hi hj H.out.2.2.1 H.out.2.2.2.1 hk1 (by omega)).mono ?_
    rintro e w1 ⟨v, rfl, hv, hb⟩
    obtain ⟨sv, Av, lv, cv, rfl⟩ := hv.form
    have HR := Lib.hid (And.intro (HP.out.next hb) hv)
    clear hv hb
    go_wp2_with fail
    go_meet
    exact ⟨_, rfl, HR.out.1.boxInt HR.out.2 rfl⟩
  clear hP
  obtain ⟨g5, rfl, hP⟩ := hcut
  obtain ⟨s2, A2, l2, k2, c0, c1, hr⟩ := hP.int 1 rfl
  have HP := Lib.hid (And.intro hP hr)
  clear hP hr
  rcases Int.lt_or_gt_of_ne hq0 with hy | hy
  focus
    have hs : sgn q = -1 := by unfold sgn; rw [if_pos hy]
    have hnn := F.new_neg (n := p) hy
    rw [← H.out.2.2.2.2.1] at hnn
    have HN := Lib.hid (show (Rat.divInt p q).num = p / (-G) ∧ ((Rat.divInt p q).den : Int) = q / (-G) by rw [Int.ediv_neg, Int.ediv_neg]; exact hnn)
    go_upto_region 2 with fail
    go_wp2_with fail
    refine (sign_any HP.out.2).mono ?_
    rw [hs]
    rintro e w1 ⟨rfl, hb⟩
    have hP := HP.out.1.next hb
    obtain ⟨s3, A3, l3, k3, e0, e1, hr3⟩ := hP.int 3 rfl
    have HQ := Lib.hid (And.intro hP hr3)
    clear hs hy hb HP c0 c1 hnn hP hr3
    go_wp2_with fail
    refine (negated_any HQ.out.2).mono ?_
    rintro e w2 ⟨v, rfl, hv, hb⟩
    obtain ⟨s4, A4, l4, k4, rfl⟩ := hv.form
    have hP2 := (HQ.out.1.next hb).left 3 rfl
    obtain ⟨m0, m1, d0, d1, f0, f1⟩ := hP2.hole 3 rfl
    have HV := Lib.hid (hP2.storeInt 3 rfl hv)
    clear hP2 hv hb HQ e0 e1
    go_upto_region 7 with fail
    rw [show (w2.setCell ⟨g5, 0, none⟩ (.int .i64 s4)).setCell ⟨g5, 1, none⟩ (.slice A4 l4 k4) = stInt w2 g5 s4 A4 l4 k4 from rfl]
    have hP := HV.out
    generalize stInt w2 g5 s4 A4 l4 k4 = w3 at *
    clear HV d0 d1 f0 f1
    refine RelV.region_rest 7 [0, 1, 2, 3, 4, 5, 6] _ rfl rfl (R := [fun v w => IsInt w v (p), fun v w => IsInt w v ((-G)), fun v w => IsInt w v (Rat.divInt p q).num, fun v w => IsInt w v (q), fun v w => IsInt w v ((-G)), fun v w => IsInt w v ((Rat.divInt p q).den : Int), fun v w => IsRat w v (Rat.divInt p q)])
      (E := RE w [(g2, .int p), (g3, .int q), (g4, .rhole), (g5, .int (-G))] w3.heap.size 1000 1001) (T := fun w w' => Below w.heap.size w w') (by kernel_rfl) (by kernel_rfl) (by kernel_rfl) (RE.start hP 1000 1001) ?_ ?_ ?_
    · intro D vals i v w1 w2 hi hE hT hv
      match i, hi with
      | 6, _ => exact IsRat.below hv hT
      | 0, _ | 1, _ | 2, _ | 3, _ | 4, _ | 5, _ => exact IsInt.below hv hT (Nat.le_refl _)
      | i + 7, hi => exact absurd hi (by omega)
    · refine RelV.Steps.cons (L := []) rfl (by kernel_rfl) ?_ ?_
      · intro vals w' D hE hF hR K hK
        obtain ⟨s, A, l, c, c0, c1, hi⟩ := hE.1.int 0 rfl
        simp only [Rel.putL, Rel.dst, z1, z2, z3, z4, Act.put, z5, z6, z7] at hK ⊢
        go_simp
        exact hK _ _ hi (Below.refl _ _) (hE.same (by decide) (by decide))
      refine RelV.Steps.cons (L := []) rfl (by kernel_rfl) ?_ ?_
      · intro vals w' D hE hF hR K hK
        obtain ⟨s, A, l, c, c0, c1, hi⟩ := hE.1.int 3 rfl
        simp only [Rel.putL, Rel.dst, z1, z2, z3, z4, Act.put, z5, z6, z7] at hK ⊢
        go_simp
        exact hK _ _ hi (Below.refl _ _) (hE.same (by decide) (by decide))
      refine RelV.Steps.cons (L := [0, 1]) rfl (by kernel_rfl) ?_ ?_
      · intro vals w' D hE hF hR K hK
        have r0 := hR.1
        have r1 := hR.2.1
        simp only [Rel.putL, Rel.dst, z1, z2, z3, z4, Act.put, z5, z6, z7] at hK ⊢
        go_simp
        go_at_call 122
        refine (part_any r0 r1 (by have := H.out.2.2.2.2.2.1.1; omega) H.out.2.2.1 (by rw [Int.natAbs_neg]; exact H.out.2.2.2.2.2.1.2) hk1 (by omega)).mono ?_
        rintro e w2 ⟨v, rfl, hv, hb⟩
        rw [← HN.out.1] at hv
        exact hK _ _ hv hb (hE.step hb (by decide) (by decide))
      refine RelV.Steps.cons (L := []) rfl (by kernel_rfl) ?_ ?_
      · intro vals w' D hE hF hR K hK
        obtain ⟨s, A, l, c, c0, c1, hi⟩ := hE.1.int 1 rfl
        simp only [Rel.putL, Rel.dst, z1, z2, z3, z4, Act.put, z5, z6, z7] at hK ⊢
        go_simp
        exact hK _ _ hi (Below.refl _ _) (hE.same (by decide) (by decide))
      refine RelV.Steps.cons (L := []) rfl (by kernel_rfl) ?_ ?_
      · intro vals w' D hE hF hR K hK
        obtain ⟨s, A, l, c, c0, c1, hi⟩ := hE.1.int 3 rfl
        simp only [Rel.putL, Rel.dst, z1, z2, z3, z4, Act.put, z5, z6, z7] at hK ⊢
        go_simp
        exact hK _ _ hi (Below.refl _ _) (hE.same (by decide) (by decide))
      refine RelV.Steps.cons (L := [3, 4]) rfl (by kernel_rfl) ?_ ?_
      · intro vals w' D hE hF hR K hK
        have r3 := hR.1
        have r4 := hR.2.1
        simp only [Rel.putL, Rel.dst, z1, z2, z3, z4, Act.put, z5, z6, z7] at hK ⊢
        go_simp
        go_at_call 122
        refine (part_any r3 r4 (by have := H.out.2.2.2.2.2.1.1; omega) H.out.2.2.2.1 (by rw [Int.natAbs_neg]; exact H.out.2.2.2.2.2.1.2) hk1 (by omega)).mono ?_
        rintro e w2 ⟨v, rfl, hv, hb⟩
        rw [← HN.out.2] at hv
        exact hK _ _ hv hb (hE.step hb (by decide) (by decide))
      refine RelV.Steps.cons (L := [2, 5]) rfl (by kernel_rfl) ?_ ?_
      · intro vals w' D hE hF hR K hK
        have r2 := hR.1
        have r5 := hR.2.1
        obtain ⟨sn, An, ln, cn, en⟩ := r2.form
        rw [en] at r2
        obtain ⟨sd, Ad, ld, cd, ed⟩ := r5.form
        rw [ed] at r5
        simp only [Rel.putL, Rel.dst, z1, z2, z3, z4, Act.put, z5, z6, z7, en, ed] at hK ⊢
        go_simp
        exact hK _ _ (IsRat.mk r2 r5) (Below.refl _ _) (hE.same (by decide) (by decide))
      exact RelV.Steps.done
    · intro vals w1 D hD hE hR
      obtain ⟨r0, r1, r2, r3, r4, r5, r6, _⟩ := hR
      obtain ⟨sx, Ax, lx, cx, tx, Ax', lx', cx', ex⟩ := r6.shape
      rw [ex] at r6
      obtain ⟨m0, m1, m2, m3, d0, d1, d2, d3, f0, f1, f2, f3⟩ := hE.1.rhole 2 rfl
      have HV := Lib.hid (And.intro r6 hE.1)
      simp only [Rel.putL, Rel.dst, z1, z2, z3, z4, Act.put, z5, z6, z7, ex]
      clear hE hD r0 r1 r2 r3 r4 r5 r6
      go_wp2
      have hF := HV.out.2.rstored 2 rfl HV.out.1
      rw [show (((w1.setCell ⟨g4, 0, none⟩ (.int .i64 sx)).setCell ⟨g4, 1, none⟩ (.slice Ax lx cx)).setCell ⟨g4, 2, none⟩ (.int .i64 tx)).setCell ⟨g4, 3, none⟩ (.slice Ax' lx' cx') = stRat w1 g4 sx Ax lx cx tx Ax' lx' cx' from rfl]
      generalize stRat w1 g4 sx Ax lx cx tx Ax' lx' cx' = W3 at *
      obtain ⟨z0, z1, z2, z3, z4, z5⟩ := hF
      exact bodyPost_ret (v := .agg #[.int .i64 sx, .slice Ax lx cx, .int .i64 tx, .slice Ax' lx' cx']) (by simp [results, Tryz.results50, go_sem, z0, z1, z2, z3]) rfl ⟨_, rfl, z4, z5.below⟩
  focus
    have hs : sgn q = 1 := by unfold sgn; rw [if_neg (by omega), if_pos hy]
    have hnn := F.new_pos (n := p) hy
    rw [← H.out.2.2.2.2.1] at hnn
    have HN := Lib.hid hnn
    go_upto_region 2 with fail
    go_wp2_with fail
    refine (sign_any HP.out.2).mono ?_
    rw [hs]
    rintro e w1 ⟨rfl, hb⟩
    have hP := HP.out.1.next hb
    clear hs hy hb HP c0 c1 hnn
    go_upto_region 7 with fail
    refine RelV.region_rest 7 [0, 1, 2, 3, 4, 5, 6] _ rfl rfl (R := [fun v w => IsInt w v (p), fun v w => IsInt w v (G), fun v w => IsInt w v (Rat.divInt p q).num, fun v w => IsInt w v (q), fun v w => IsInt w v (G), fun v w => IsInt w v ((Rat.divInt p q).den : Int), fun v w => IsRat w v (Rat.divInt p q)])
      (E := RE w [(g2, .int p), (g3, .int q), (g4, .rhole), (g5, .int G)] w1.heap.size 1000 1001) (T := fun w w' => Below w.heap.size w w') (by kernel_rfl) (by kernel_rfl) (by kernel_rfl) (RE.start hP 1000 1001) ?_ ?_ ?_
    · intro D vals i v w1 w2 hi hE hT hv
      match i, hi with
      | 6, _ => exact IsRat.below hv hT
      | 0, _ | 1, _ | 2, _ | 3, _ | 4, _ | 5, _ => exact IsInt.below hv hT (Nat.le_refl _)
      | i + 7, hi => exact absurd hi (by omega)
    · refine RelV.Steps.cons (L := []) rfl (by kernel_rfl) ?_ ?_
      · intro vals w' D hE hF hR K hK
        obtain ⟨s, A, l, c, c0, c1, hi⟩ := hE.1.int 0 rfl
        simp only [Rel.putL, Rel.dst, z1, z2, z3, z4, Act.put, z5, z6, z7] at hK ⊢
        go_simp
        exact hK _ _ hi (Below.refl _ _) (hE.same (by decide) (by decide))
      refine RelV.Steps.cons (L := []) rfl (by kernel_rfl) ?_ ?_
      · intro vals w' D hE hF hR K hK
        obtain ⟨s, A, l, c, c0, c1, hi⟩ := hE.1.int 3 rfl
        simp only [Rel.putL, Rel.dst, z1, z2, z3, z4, Act.put, z5, z6, z7] at hK ⊢
        go_simp
        exact hK _ _ hi (Below.refl _ _) (hE.same (by decide) (by decide))
      refine RelV.Steps.cons (L := [0, 1]) rfl (by kernel_rfl) ?_ ?_
      · intro vals w' D hE hF hR K hK
        have r0 := hR.1
        have r1 := hR.2.1
        simp only [Rel.putL, Rel.dst, z1, z2, z3, z4, Act.put, z5, z6, z7] at hK ⊢
        go_simp
        go_at_call 122
        refine (part_any r0 r1 H.out.2.2.2.2.2.1.1 H.out.2.2.1 H.out.2.2.2.2.2.1.2 hk1 (by omega)).mono ?_
        rintro e w2 ⟨v, rfl, hv, hb⟩
        rw [← HN.out.1] at hv
        exact hK _ _ hv hb (hE.step hb (by decide) (by decide))
      refine RelV.Steps.cons (L := []) rfl (by kernel_rfl) ?_ ?_
      · intro vals w' D hE hF hR K hK
        obtain ⟨s, A, l, c, c0, c1, hi⟩ := hE.1.int 1 rfl
        simp only [Rel.putL, Rel.dst, z1, z2, z3, z4, Act.put, z5, z6, z7] at hK ⊢
        go_simp
        exact hK _ _ hi (Below.refl _ _) (hE.same (by decide) (by decide))
      refine RelV.Steps.cons (L := []) rfl (by kernel_rfl) ?_ ?_
      · intro vals w' D hE hF hR K hK
        obtain ⟨s, A, l, c, c0, c1, hi⟩ := hE.1.int 3 rfl
        simp only [Rel.putL, Rel.dst, z1, z2, z3, z4, Act.put, z5, z6, z7] at hK ⊢
        go_simp
        exact hK _ _ hi (Below.refl _ _) (hE.same (by decide) (by decide))
      refine RelV.Steps.cons (L := [3, 4]) rfl (by kernel_rfl) ?_ ?_
      · intro vals w' D hE hF hR K hK
        have r3 := hR.1
        have r4 := hR.2.1
        simp only [Rel.putL, Rel.dst, z1, z2, z3, z4, Act.put, z5, z6, z7] at hK ⊢
        go_simp
        go_at_call 122
        refine (part_any r3 r4 H.out.2.2.2.2.2.1.1 H.out.2.2.2.1 H.out.2.2.2.2.2.1.2 hk1 (by omega)).mono ?_
        rintro e w2 ⟨v, rfl, hv, hb⟩
        rw [← HN.out.2] at hv
        exact hK _ _ hv hb (hE.step hb (by decide) (by decide))
      refine RelV.Steps.cons (L := [2, 5]) rfl (by kernel_rfl) ?_ ?_
      · intro vals w' D hE hF hR K hK
        have r2 := hR.1
        have r5 := hR.2.1
        obtain ⟨sn, An, ln, cn, en⟩ := r2.form
        rw [en] at r2
        obtain ⟨sd, Ad, ld, cd, ed⟩ := r5.form
        rw [ed] at r5
        simp only [Rel.putL, Rel.dst, z1, z2, z3, z4, Act.put, z5, z6, z7, en, ed] at hK ⊢
        go_simp
        exact hK _ _ (IsRat.mk r2 r5) (Below.refl _ _) (hE.same (by decide) (by decide))
      exact RelV.Steps.done
    · intro vals w1 D hD hE hR
      obtain ⟨r0, r1, r2, r3, r4, r5, r6, _⟩ := hR
      obtain ⟨sx, Ax, lx, cx, tx, Ax', lx', cx', ex⟩ := r6.shape
      rw [ex] at r6
      obtain ⟨m0, m1, m2, m3, d0, d1, d2, d3, f0, f1, f2, f3⟩ := hE.1.rhole 2 rfl
      have HV := Lib.hid (And.intro r6 hE.1)
      simp only [Rel.putL, Rel.dst, z1, z2, z3, z4, Act.put, z5, z6, z7, ex]
      clear hE hD r0 r1 r2 r3 r4 r5 r6
      go_wp2
      have hF := HV.out.2.rstored 2 rfl HV.out.1
      rw [show (((w1.setCell ⟨g4, 0, none⟩ (.int .i64 sx)).setCell ⟨g4, 1, none⟩ (.slice Ax lx cx)).setCell ⟨g4, 2, none⟩ (.int .i64 tx)).setCell ⟨g4, 3, none⟩ (.slice Ax' lx' cx') = stRat w1 g4 sx Ax lx cx tx Ax' lx' cx' from rfl]
      generalize stRat w1 g4 sx Ax lx cx tx Ax' lx' cx' = W3 at *
      obtain ⟨z0, z1, z2, z3, z4, z5⟩ := hF
      exact bodyPost_ret (v := .agg #[.int .i64 sx, .slice Ax lx cx, .int .i64 tx, .slice Ax' lx' cx']) (by simp [results, Tryz.results50, go_sem, z0, z1, z2, z3]) rfl ⟨_, rfl, z4, z5.below⟩
end Go.Proofs.YtjghgbfagjhdgaaGreatDoor
