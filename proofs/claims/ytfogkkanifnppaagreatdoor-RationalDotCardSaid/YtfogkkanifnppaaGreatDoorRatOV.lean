/- Negated, Minus, Whole, Compare of fractions. Over of fractions; MakeRat. -/
import Derived.Test.YtfogkkanifnppaaGreatDoorRatP
import Derived.Test.YtfogkkanifnppaaGreatDoorRatQ
import Derived.Test.YtfogkkanifnppaaGreatDoorIntH
namespace Go.Proofs.YtfogkkanifnppaaGreatDoor
open Go Go.RowKit

set_option linter.unusedSimpArgs false in
set_option maxHeartbeats 4000000 in
set_option maxRecDepth 100000 in
theorem qneg_any {w : World} {a : Value} {x : Rat} (ha : IsRat w a x) :
    Calls Tryz.prog 122 #[a] w fun e w' => ∃ v, e = .returned v ∧ IsRat w' v (-x) ∧ Below w.heap.size w w' := by
  obtain ⟨s, A, l, c, t, A', l', c', rfl⟩ := ha.shape
  have H := Lib.hid ha
  clear ha
  go_enter Tryz.func122, Tryz.ntmps122
  go_upto_region 0 with fail
  go_cut [1, 2] from 3 (fun s1 s2 wx => ∃ g1 g2 : Nat, s1 = .pointer (some ⟨g1, 0, none⟩) ∧ s2 = .pointer (some ⟨g2, 0, none⟩) ∧ Pls w [(g1, .rat x), (g2, .rhole)] wx)
  case first =>
    go_wp2_with fail
    go_meet
    exact ⟨_, _, rfl, rfl, ((Pls.start w).boxRat H.out rfl).newRhole (by simp)⟩
  obtain ⟨g1, g2, rfl, rfl, hP⟩ := hcut
  go_upto_region 1 with fail
  refine RelV.region_rest 6 [0, 1, 2, 3, 4, 5] _ rfl rfl (R := [fun v _ => v = .pointer (some ⟨g1, 0, none⟩), fun v w => IsInt w v (x).num, fun v w => IsInt w v (-x).num, fun v _ => v = .pointer (some ⟨g1, 2, none⟩), fun v w => DenIs w v (x), fun v w => IsRat w v (-x)])
    (E := RE w [(g1, .rat x), (g2, .rhole)] wc.heap.size 1000 1001) (T := fun w w' => Below w.heap.size w w') (by kernel_rfl) (by kernel_rfl) (by kernel_rfl) (RE.start hP 1000 1001) ?_ ?_ ?_
  · intro D vals i v w1 w2 hi hE hT hv
    match i, hi with
    | 5, _ => exact IsRat.below hv hT
    | 1, _ | 2, _ => exact IsInt.below hv hT (Nat.le_refl _)
    | 4, _ => exact DenIs.below hv hT
    | 0, _ | 3, _ => exact hv
    | i + 6, hi => exact absurd hi (by omega)
  · refine RelV.Steps.cons (L := []) rfl (by kernel_rfl) ?_ ?_
    · intro vals w' D hE hF hR K hK
      simp only [Rel.putL, Rel.dst, z1, z2, z3, z4, Act.put, z5, z6, z7] at hK ⊢
      go_simp
      exact hK _ _ rfl (Below.refl _ _) (hE.same (by decide) (by decide))
    refine RelV.Steps.cons (L := [0]) rfl (by kernel_rfl) ?_ ?_
    · intro vals w' D hE hF hR K hK
      have d0 : vals 0 = .pointer (some ⟨g1, 0, none⟩) := hR.1
      obtain ⟨s, A, l, c, t, A', l', c', c0, c1, c2, c3, hi⟩ := hE.1.rat 0 rfl
      simp only [Rel.putL, Rel.dst, z1, z2, z3, z4, Act.put, z5, z6, z7, d0] at hK ⊢
      go_simp
      exact hK _ _ hi.num (Below.refl _ _) (hE.same (by decide) (by decide))
    refine RelV.Steps.cons (L := [1]) rfl (by kernel_rfl) ?_ ?_
    · intro vals w' D hE hF hR K hK
      have r1 := hR.1
      simp only [Rel.putL, Rel.dst, z1, z2, z3, z4, Act.put, z5, z6, z7] at hK ⊢
      go_simp
      go_at_call 108
      refine (negated_any r1).mono ?_
      rintro e w2 ⟨v, rfl, hv, hb⟩
      exact hK _ _ hv hb (hE.step hb (by decide) (by decide))
    refine RelV.Steps.cons (L := []) rfl (by kernel_rfl) ?_ ?_
    · intro vals w' D hE hF hR K hK
      simp only [Rel.putL, Rel.dst, z1, z2, z3, z4, Act.put, z5, z6, z7] at hK ⊢
      go_simp
      exact hK _ _ rfl (Below.refl _ _) (hE.same (by decide) (by decide))
    refine RelV.Steps.cons (L := [3]) rfl (by kernel_rfl) ?_ ?_
    · intro vals w' D hE hF hR K hK
      have d3 : vals 3 = .pointer (some ⟨g1, 2, none⟩) := hR.1
      obtain ⟨s, A, l, c, t, A', l', c', c0, c1, c2, c3, hi⟩ := hE.1.rat 0 rfl
      simp only [Rel.putL, Rel.dst, z1, z2, z3, z4, Act.put, z5, z6, z7, d3] at hK ⊢
      go_simp
      exact hK _ _ hi.den (Below.refl _ _) (hE.same (by decide) (by decide))
    refine RelV.Steps.cons (L := [2, 4]) rfl (by kernel_rfl) ?_ ?_
    · intro vals w' D hE hF hR K hK
      have r2 := hR.1
      have r4 := hR.2.1
      have r4n := neg_den r4
      obtain ⟨sn, An, ln, cn, en⟩ := r2.form
      rw [en] at r2
      obtain ⟨sd, Ad, ld, cd, ed⟩ := r4.form
      rw [ed] at r4
      simp only [Rel.putL, Rel.dst, z1, z2, z3, z4, Act.put, z5, z6, z7, en, ed] at hK ⊢
      go_simp
      exact hK _ _ (IsRat.join r2 (by rw [ed] at r4n; exact r4n)) (Below.refl _ _) (hE.same (by decide) (by decide))
    exact RelV.Steps.done
  · intro vals w1 D hD hE hR
    obtain ⟨r0, r1, r2, r3, r4, r5, _⟩ := hR
    obtain ⟨sx, Ax, lx, cx, tx, Ax', lx', cx', ex⟩ := r5.shape
    rw [ex] at r5
    obtain ⟨m0, m1, m2, m3, d0, d1, d2, d3, f0, f1, f2, f3⟩ := hE.1.rhole 1 rfl
    have HV := Lib.hid (And.intro r5 hE.1)
    simp only [Rel.putL, Rel.dst, z1, z2, z3, z4, Act.put, z5, z6, z7, ex]
    clear hE hD r0 r1 r2 r3 r4 r5
    go_wp2
    have hF := HV.out.2.rstored 1 rfl HV.out.1
    rw [show (((w1.setCell ⟨g2, 0, none⟩ (.int .i64 sx)).setCell ⟨g2, 1, none⟩ (.slice Ax lx cx)).setCell ⟨g2, 2, none⟩ (.int .i64 tx)).setCell ⟨g2, 3, none⟩ (.slice Ax' lx' cx') = stRat w1 g2 sx Ax lx cx tx Ax' lx' cx' from rfl]
    generalize stRat w1 g2 sx Ax lx cx tx Ax' lx' cx' = W3 at *
    obtain ⟨z0, z1, z2, z3, z4, z5⟩ := hF
    exact bodyPost_ret (v := .agg #[.int .i64 sx, .slice Ax lx cx, .int .i64 tx, .slice Ax' lx' cx']) (by simp [results, Tryz.results122, go_sem, z0, z1, z2, z3]) rfl ⟨_, rfl, z4, z5.below⟩

set_option linter.unusedSimpArgs false in
set_option maxHeartbeats 4000000 in
set_option maxRecDepth 100000 in
theorem qminus_any {w : World} {a b : Value} {x y : Rat} {k : Nat} (ha : IsRat w a x) (hb : IsRat w b y) (hx : F.Lt (M.B ^ k) x) (hy : F.Lt (M.B ^ k) y) (hk1 : 1 ≤ k) (hk : k ≤ 14000) :
    Calls Tryz.prog 72 #[a, b] w fun e w' => ∃ v, e = .returned v ∧ IsRat w' v (x - y) ∧ Below w.heap.size w w' := by
  obtain ⟨s, A, l, c, t, A', l', c', rfl⟩ := ha.shape
  obtain ⟨s1, A1, l1, c1, t1, A1', l1', c1', rfl⟩ := hb.shape
  rw [Rat.sub_eq_add_neg]
  have H := Lib.hid (And.intro ha (And.intro hb (And.intro hx (F.neg_lt hy))))
  clear ha hb hx hy
  go_enter Tryz.func72, Tryz.ntmps72
  go_upto_region 0 with fail
  go_cut [2, 3, 4] from 5 (fun s2 s3 s4 wx => ∃ g2 g3 g4 : Nat, s2 = .pointer (some ⟨g2, 0, none⟩) ∧ s3 = .pointer (some ⟨g3, 0, none⟩) ∧ s4 = .pointer (some ⟨g4, 0, none⟩) ∧ Pls w [(g2, .rat x), (g3, .rat y), (g4, .rhole)] wx)
  case first =>
    go_wp2_with fail
    go_meet
    exact ⟨_, _, _, rfl, rfl, rfl, (((Pls.start w).boxRat H.out.1 rfl).boxRat (H.out.2.1.below ((Below.refl _ _).alloc (Nat.le_refl _) _)) (by simp)).newRhole (by simp)⟩
  obtain ⟨g2, g3, g4, rfl, rfl, rfl, hP⟩ := hcut
  go_upto_region 1 with fail
  refine RelV.region_rest 4 [0, 1, 2, 3] _ rfl rfl (R := [fun v w => IsRat w v (x), fun v w => IsRat w v (y), fun v w => IsRat w v (-y), fun v w => IsRat w v (x + -y)])
    (E := RE w [(g2, .rat x), (g3, .rat y), (g4, .rhole)] wc.heap.size 1000 1001) (T := fun w w' => Below w.heap.size w w') (by kernel_rfl) (by kernel_rfl) (by kernel_rfl) (RE.start hP 1000 1001) ?_ ?_ ?_
  · intro D vals i v w1 w2 hi hE hT hv
    match i, hi with
    | 0, _ | 1, _ | 2, _ | 3, _ => exact IsRat.below hv hT
    | i + 4, hi => exact absurd hi (by omega)
  · refine RelV.Steps.cons (L := []) rfl (by kernel_rfl) ?_ ?_
    · intro vals w' D hE hF hR K hK
      obtain ⟨s, A, l, c, t, A', l', c', c0, c1, c2, c3, hi⟩ := hE.1.rat 0 rfl
      simp only [Rel.putL, Rel.dst, z1, z2, z3, z4, Act.put, z5, z6, z7] at hK ⊢
      go_simp
      exact hK _ _ hi (Below.refl _ _) (hE.same (by decide) (by decide))
    refine RelV.Steps.cons (L := []) rfl (by kernel_rfl) ?_ ?_
    · intro vals w' D hE hF hR K hK
      obtain ⟨s, A, l, c, t, A', l', c', c0, c1, c2, c3, hi⟩ := hE.1.rat 1 rfl
      simp only [Rel.putL, Rel.dst, z1, z2, z3, z4, Act.put, z5, z6, z7] at hK ⊢
      go_simp
      exact hK _ _ hi (Below.refl _ _) (hE.same (by decide) (by decide))
    refine RelV.Steps.cons (L := [1]) rfl (by kernel_rfl) ?_ ?_
    · intro vals w' D hE hF hR K hK
      have r1 := hR.1
      simp only [Rel.putL, Rel.dst, z1, z2, z3, z4, Act.put, z5, z6, z7] at hK ⊢
      go_simp
      go_at_call 122
      refine (qneg_any r1).mono ?_
      rintro e w2 ⟨v, rfl, hv, hb⟩
      exact hK _ _ hv hb (hE.step hb (by decide) (by decide))
    refine RelV.Steps.cons (L := [0, 2]) rfl (by kernel_rfl) ?_ ?_
    · intro vals w' D hE hF hR K hK
      have r0 := hR.1
      have r2 := hR.2.1
      simp only [Rel.putL, Rel.dst, z1, z2, z3, z4, Act.put, z5, z6, z7] at hK ⊢
      go_simp
      go_at_call 60
      refine (qplus_any r0 r2 H.out.2.2.1 H.out.2.2.2 hk1 hk).mono ?_
      rintro e w2 ⟨v, rfl, hv, hb⟩
      exact hK _ _ hv hb (hE.step hb (by decide) (by decide))
    exact RelV.Steps.done
  · intro vals w1 D hD hE hR
    obtain ⟨r0, r1, r2, r3, _⟩ := hR
    obtain ⟨sx, Ax, lx, cx, tx, Ax', lx', cx', ex⟩ := r3.shape
    rw [ex] at r3
    obtain ⟨m0, m1, m2, m3, d0, d1, d2, d3, f0, f1, f2, f3⟩ := hE.1.rhole 2 rfl
    have HV := Lib.hid (And.intro r3 hE.1)
    simp only [Rel.putL, Rel.dst, z1, z2, z3, z4, Act.put, z5, z6, z7, ex]
    clear hE hD r0 r1 r2 r3
    go_wp2
    have hF := HV.out.2.rstored 2 rfl HV.out.1
    rw [show (((w1.setCell ⟨g4, 0, none⟩ (.int .i64 sx)).setCell ⟨g4, 1, none⟩ (.slice Ax lx cx)).setCell ⟨g4, 2, none⟩ (.int .i64 tx)).setCell ⟨g4, 3, none⟩ (.slice Ax' lx' cx') = stRat w1 g4 sx Ax lx cx tx Ax' lx' cx' from rfl]
    generalize stRat w1 g4 sx Ax lx cx tx Ax' lx' cx' = W3 at *
    obtain ⟨z0, z1, z2, z3, z4, z5⟩ := hF
    exact bodyPost_ret (v := .agg #[.int .i64 sx, .slice Ax lx cx, .int .i64 tx, .slice Ax' lx' cx']) (by simp [results, Tryz.results72, go_sem, z0, z1, z2, z3]) rfl ⟨_, rfl, z4, z5.below⟩

set_option linter.unusedSimpArgs false in
set_option maxHeartbeats 4000000 in
set_option maxRecDepth 100000 in
theorem whole_any {w : World} {a : Value} {z : Int} (ha : IsInt w a z) :
    Calls Tryz.prog 129 #[a] w fun e w' => ∃ v, e = .returned v ∧ IsRat w' v (z : Rat) ∧ Below w.heap.size w w' := by
  obtain ⟨s, A, l, c, rfl⟩ := ha.form
  have H := Lib.hid ha
  clear ha
  go_enter Tryz.func129, Tryz.ntmps129
  go_upto_region 0 with fail
  go_cut [1, 2] from 3 (fun s1 s2 wx => ∃ g1 g2 : Nat, s1 = .pointer (some ⟨g1, 0, none⟩) ∧ s2 = .pointer (some ⟨g2, 0, none⟩) ∧ Pls w [(g1, .int z), (g2, .rhole)] wx)
  case first =>
    go_wp2_with fail
    go_meet
    exact ⟨_, _, rfl, rfl, ((Pls.start w).boxInt H.out rfl).newRhole (by simp)⟩
  obtain ⟨g1, g2, rfl, rfl, hP⟩ := hcut
  go_upto_region 1 with fail
  refine RelV.region_rest 3 [0, 1, 2] _ rfl rfl (R := [fun v w => IsInt w v (z), fun v w => IsInt w v 1, fun v w => IsRat w v ((z : Rat))])
    (E := RE w [(g1, .int z), (g2, .rhole)] wc.heap.size 1000 1001) (T := fun w w' => Below w.heap.size w w') (by kernel_rfl) (by kernel_rfl) (by kernel_rfl) (RE.start hP 1000 1001) ?_ ?_ ?_
  · intro D vals i v w1 w2 hi hE hT hv
    match i, hi with
    | 2, _ => exact IsRat.below hv hT
    | 0, _ | 1, _ => exact IsInt.below hv hT (Nat.le_refl _)
    | i + 3, hi => exact absurd hi (by omega)
  · refine RelV.Steps.cons (L := []) rfl (by kernel_rfl) ?_ ?_
    · intro vals w' D hE hF hR K hK
      obtain ⟨s, A, l, c, c0, c1, hi⟩ := hE.1.int 0 rfl
      simp only [Rel.putL, Rel.dst, z1, z2, z3, z4, Act.put, z5, z6, z7] at hK ⊢
      go_simp
      exact hK _ _ hi (Below.refl _ _) (hE.same (by decide) (by decide))
    refine RelV.Steps.cons (L := []) rfl (by kernel_rfl) ?_ ?_
    · intro vals w' D hE hF hR K hK
      simp only [Rel.putL, Rel.dst, z1, z2, z3, z4, Act.put, z5, z6, z7] at hK ⊢
      go_simp
      go_at_call 113
      refine (make_any (z := 1) (by decide) (by decide)).mono ?_
      rintro e w2 ⟨v, rfl, hv, hb⟩
      exact hK _ _ hv hb (hE.step hb (by decide) (by decide))
    refine RelV.Steps.cons (L := [0, 1]) rfl (by kernel_rfl) ?_ ?_
    · intro vals w' D hE hF hR K hK
      have r0 := hR.1
      have r1 := hR.2.1
      obtain ⟨sn, An, ln, cn, en⟩ := r0.form
      rw [en] at r0
      obtain ⟨sd, Ad, ld, cd, ed⟩ := r1.form
      rw [ed] at r1
      simp only [Rel.putL, Rel.dst, z1, z2, z3, z4, Act.put, z5, z6, z7, en, ed] at hK ⊢
      go_simp
      exact hK _ _ (IsRat.mk (x := (z : Rat)) r0 r1) (Below.refl _ _) (hE.same (by decide) (by decide))
    exact RelV.Steps.done
  · intro vals w1 D hD hE hR
    obtain ⟨r0, r1, r2, _⟩ := hR
    obtain ⟨sx, Ax, lx, cx, tx, Ax', lx', cx', ex⟩ := r2.shape
    rw [ex] at r2
    obtain ⟨m0, m1, m2, m3, d0, d1, d2, d3, f0, f1, f2, f3⟩ := hE.1.rhole 1 rfl
    have HV := Lib.hid (And.intro r2 hE.1)
    simp only [Rel.putL, Rel.dst, z1, z2, z3, z4, Act.put, z5, z6, z7, ex]
    clear hE hD r0 r1 r2
    go_wp2
    have hF := HV.out.2.rstored 1 rfl HV.out.1
    rw [show (((w1.setCell ⟨g2, 0, none⟩ (.int .i64 sx)).setCell ⟨g2, 1, none⟩ (.slice Ax lx cx)).setCell ⟨g2, 2, none⟩ (.int .i64 tx)).setCell ⟨g2, 3, none⟩ (.slice Ax' lx' cx') = stRat w1 g2 sx Ax lx cx tx Ax' lx' cx' from rfl]
    generalize stRat w1 g2 sx Ax lx cx tx Ax' lx' cx' = W3 at *
    obtain ⟨z0, z1, z2, z3, z4, z5⟩ := hF
    exact bodyPost_ret (v := .agg #[.int .i64 sx, .slice Ax lx cx, .int .i64 tx, .slice Ax' lx' cx']) (by simp [results, Tryz.results129, go_sem, z0, z1, z2, z3]) rfl ⟨_, rfl, z4, z5.below⟩

set_option linter.unusedSimpArgs false in
set_option maxHeartbeats 4000000 in
set_option maxRecDepth 100000 in
theorem qcompare_any {w : World} {a b : Value} {x y : Rat} {k : Nat} (ha : IsRat w a x) (hb : IsRat w b y) (hx : F.Lt (M.B ^ k) x) (hy : F.Lt (M.B ^ k) y) (hk1 : 1 ≤ k) (hk : k ≤ 14000) :
    Calls Tryz.prog 65 #[a, b] w fun e w' => e = .returned (.int .i64 (cmpI (x.num * y.den) (y.num * x.den))) ∧ Below w.heap.size w w' := by
  obtain ⟨s, A, l, c, t, A', l', c', rfl⟩ := ha.shape
  obtain ⟨s1, A1, l1, c1, t1, A1', l1', c1', rfl⟩ := hb.shape
  obtain ⟨r, hr⟩ : ∃ r, r = cmpI (x.num * y.den) (y.num * x.den) := ⟨_, rfl⟩
  have H := Lib.hid (And.intro ha (And.intro hb (And.intro hx (And.intro hy hr))))
  rw [← hr]
  clear ha hb hx hy hr
  go_enter Tryz.func65, Tryz.ntmps65
  go_upto_region 0 with fail
  go_cut [2, 3] from 5 (fun s2 s3 wx => ∃ g2 g3 : Nat, s2 = .pointer (some ⟨g2, 0, none⟩) ∧ s3 = .pointer (some ⟨g3, 0, none⟩) ∧ Pls w [(g2, .rat x), (g3, .rat y)] wx)
  case first =>
    go_wp2_with fail
    go_meet
    exact ⟨_, _, rfl, rfl, (((Pls.start w).boxRat H.out.1 rfl).boxRat (H.out.2.1.below ((Below.refl _ _).alloc (Nat.le_refl _) _)) (by simp))⟩
  obtain ⟨g2, g3, rfl, rfl, hP⟩ := hcut
  go_upto_region 1 with fail
  refine RelV.region_rest 11 [0, 1, 2, 3, 4, 5, 6, 7, 8, 9, 10] _ rfl rfl (R := [fun v _ => v = .pointer (some ⟨g2, 0, none⟩), fun v w => IsInt w v (x).num, fun v w => IsRat w v (y), fun v w => IsInt w v (y.den : Int), fun v w => IsInt w v (x.num * (y.den : Int)), fun v _ => v = .pointer (some ⟨g3, 0, none⟩), fun v w => IsInt w v (y).num, fun v w => IsRat w v (x), fun v w => IsInt w v (x.den : Int), fun v w => IsInt w v (y.num * (x.den : Int)), fun v _ => v = .int .i64 r])
    (E := RE w [(g2, .rat x), (g3, .rat y)] wc.heap.size 1000 1001) (T := fun w w' => Below w.heap.size w w') (by kernel_rfl) (by kernel_rfl) (by kernel_rfl) (RE.start hP 1000 1001) ?_ ?_ ?_
  · intro D vals i v w1 w2 hi hE hT hv
    match i, hi with
    | 2, _ | 7, _ => exact IsRat.below hv hT
    | 1, _ | 3, _ | 4, _ | 6, _ | 8, _ | 9, _ => exact IsInt.below hv hT (Nat.le_refl _)
    | 0, _ | 5, _ | 10, _ => exact hv
    | i + 11, hi => exact absurd hi (by omega)
  · refine RelV.Steps.cons (L := []) rfl (by kernel_rfl) ?_ ?_
    · intro vals w' D hE hF hR K hK
      simp only [Rel.putL, Rel.dst, z1, z2, z3, z4, Act.put, z5, z6, z7] at hK ⊢
      go_simp
      exact hK _ _ rfl (Below.refl _ _) (hE.same (by decide) (by decide))
    refine RelV.Steps.cons (L := [0]) rfl (by kernel_rfl) ?_ ?_
    · intro vals w' D hE hF hR K hK
      have d0 : vals 0 = .pointer (some ⟨g2, 0, none⟩) := hR.1
      obtain ⟨s, A, l, c, t, A', l', c', c0, c1, c2, c3, hi⟩ := hE.1.rat 0 rfl
      simp only [Rel.putL, Rel.dst, z1, z2, z3, z4, Act.put, z5, z6, z7, d0] at hK ⊢
      go_simp
      exact hK _ _ hi.num (Below.refl _ _) (hE.same (by decide) (by decide))
    refine RelV.Steps.cons (L := []) rfl (by kernel_rfl) ?_ ?_
    · intro vals w' D hE hF hR K hK
      obtain ⟨s, A, l, c, t, A', l', c', c0, c1, c2, c3, hi⟩ := hE.1.rat 1 rfl
      simp only [Rel.putL, Rel.dst, z1, z2, z3, z4, Act.put, z5, z6, z7] at hK ⊢
      go_simp
      exact hK _ _ hi (Below.refl _ _) (hE.same (by decide) (by decide))
    refine RelV.Steps.cons (L := [2]) rfl (by kernel_rfl) ?_ ?_
    · intro vals w' D hE hF hR K hK
      have r2 := hR.1
      simp only [Rel.putL, Rel.dst, z1, z2, z3, z4, Act.put, z5, z6, z7] at hK ⊢
      go_simp
      go_at_call 103
      refine (den_any r2).mono ?_
      rintro e w2 ⟨v, rfl, hv, hb⟩
      exact hK _ _ hv hb (hE.step hb (by decide) (by decide))
    refine RelV.Steps.cons (L := [1, 3]) rfl (by kernel_rfl) ?_ ?_
    · intro vals w' D hE hF hR K hK
      have r1 := hR.1
      have r3 := hR.2.1
      simp only [Rel.putL, Rel.dst, z1, z2, z3, z4, Act.put, z5, z6, z7] at hK ⊢
      go_simp
      go_at_call 106
      refine (times_int r1 r3 H.out.2.2.1.1 (by rw [Int.natAbs_natCast]; exact H.out.2.2.2.1.2) (by omega)).mono ?_
      rintro e w2 ⟨v, rfl, hv, hb⟩
      exact hK _ _ hv hb (hE.step hb (by decide) (by decide))
    refine RelV.Steps.cons (L := []) rfl (by kernel_rfl) ?_ ?_
    · intro vals w' D hE hF hR K hK
      simp only [Rel.putL, Rel.dst, z1, z2, z3, z4, Act.put, z5, z6, z7] at hK ⊢
      go_simp
      exact hK _ _ rfl (Below.refl _ _) (hE.same (by decide) (by decide))
    refine RelV.Steps.cons (L := [5]) rfl (by kernel_rfl) ?_ ?_
    · intro vals w' D hE hF hR K hK
      have d5 : vals 5 = .pointer (some ⟨g3, 0, none⟩) := hR.1
      obtain ⟨s, A, l, c, t, A', l', c', c0, c1, c2, c3, hi⟩ := hE.1.rat 1 rfl
      simp only [Rel.putL, Rel.dst, z1, z2, z3, z4, Act.put, z5, z6, z7, d5] at hK ⊢
      go_simp
      exact hK _ _ hi.num (Below.refl _ _) (hE.same (by decide) (by decide))
    refine RelV.Steps.cons (L := []) rfl (by kernel_rfl) ?_ ?_
    · intro vals w' D hE hF hR K hK
      obtain ⟨s, A, l, c, t, A', l', c', c0, c1, c2, c3, hi⟩ := hE.1.rat 0 rfl
      simp only [Rel.putL, Rel.dst, z1, z2, z3, z4, Act.put, z5, z6, z7] at hK ⊢
      go_simp
      exact hK _ _ hi (Below.refl _ _) (hE.same (by decide) (by decide))
    refine RelV.Steps.cons (L := [7]) rfl (by kernel_rfl) ?_ ?_
    · intro vals w' D hE hF hR K hK
      have r7 := hR.1
      simp only [Rel.putL, Rel.dst, z1, z2, z3, z4, Act.put, z5, z6, z7] at hK ⊢
      go_simp
      go_at_call 103
      refine (den_any r7).mono ?_
      rintro e w2 ⟨v, rfl, hv, hb⟩
      exact hK _ _ hv hb (hE.step hb (by decide) (by decide))
    refine RelV.Steps.cons (L := [6, 8]) rfl (by kernel_rfl) ?_ ?_
    · intro vals w' D hE hF hR K hK
      have r6 := hR.1
      have r8 := hR.2.1
      simp only [Rel.putL, Rel.dst, z1, z2, z3, z4, Act.put, z5, z6, z7] at hK ⊢
      go_simp
      go_at_call 106
      refine (times_int r6 r8 H.out.2.2.2.1.1 (by rw [Int.natAbs_natCast]; exact H.out.2.2.1.2) (by omega)).mono ?_
      rintro e w2 ⟨v, rfl, hv, hb⟩
      exact hK _ _ hv hb (hE.step hb (by decide) (by decide))
    refine RelV.Steps.cons (L := [4, 9]) rfl (by kernel_rfl) ?_ ?_
    · intro vals w' D hE hF hR K hK
      have r4 := hR.1
      have r9 := hR.2.1
      simp only [Rel.putL, Rel.dst, z1, z2, z3, z4, Act.put, z5, z6, z7] at hK ⊢
      go_simp
      go_at_call 112
      refine (compare_int (k := 2 * k) r4 r9 (mul_B H.out.2.2.1.1 (by rw [Int.natAbs_natCast]; exact H.out.2.2.2.1.2)) (mul_B H.out.2.2.2.1.1 (by rw [Int.natAbs_natCast]; exact H.out.2.2.1.2)) (by omega)).mono ?_
      rintro e w2 ⟨he, hb⟩
      rw [← H.out.2.2.2.2] at he
      subst he
      exact hK _ _ rfl hb (hE.step hb (by decide) (by decide))
    exact RelV.Steps.done
  · intro vals w1 D hD hE hR
    obtain ⟨r0, r1, r2, r3, r4, r5, r6, r7, r8, r9, r10, _⟩ := hR
    have HQ := Lib.hid hE.1
    have e10 : vals 10 = .int .i64 r := r10
    simp only [Rel.putL, Rel.dst, z1, z2, z3, z4, Act.put, z5, z6, z7, e10]
    clear hE hD r0 r1 r2 r3 r4 r5 r6 r7 r8 r9 r10
    go_wp2
    go_ret
    exact ⟨rfl, HQ.out.below⟩
end Go.Proofs.YtfogkkanifnppaaGreatDoor
namespace Go.Proofs.YtfogkkanifnppaaGreatDoor
open Go Go.RowKit

theorem inv_num_pos {y : Rat} (h : 0 < y.num) : (y⁻¹).num = (y.den : Int) ∧ ((y⁻¹).den : Int) = y.num := by
  obtain ⟨e1, e2⟩ := F.inv_pos h
  exact ⟨e1, by rw [e2]; omega⟩
theorem inv_num_neg {y : Rat} (h : y.num < 0) : (y⁻¹).num = -(y.den : Int) ∧ ((y⁻¹).den : Int) = -y.num := by
  obtain ⟨e1, e2⟩ := F.inv_neg h
  exact ⟨e1, by rw [e2]; omega⟩
set_option linter.unusedSimpArgs false in
set_option maxHeartbeats 4000000 in
set_option maxRecDepth 100000 in
theorem qover_any {w : World} {a b : Value} {x y : Rat} {k : Nat} (ha : IsRat w a x) (hb : IsRat w b y) (h0 : y ≠ 0) (hx : F.Lt (M.B ^ k) x) (hy : F.Lt (M.B ^ k) y) (hk1 : 1 ≤ k) (hk : k ≤ 14000) :
    Calls Tryz.prog 61 #[a, b] w fun e w' => ∃ v, e = .returned v ∧ IsRat w' v (x / y) ∧ Below w.heap.size w w' := by
  obtain ⟨s, A, l, c, t, A', l', c', rfl⟩ := ha.shape
  obtain ⟨s1, A1, l1, c1, t1, A1', l1', c1', rfl⟩ := hb.shape
  rw [Rat.div_def]
  have H := Lib.hid (And.intro ha (And.intro hb (And.intro hx (And.intro (F.inv_lt hy h0) (F.num_ne h0)))))
  clear ha hb hx hy h0
  go_enter Tryz.func61, Tryz.ntmps61
  go_upto_region 0 with fail
  go_cut [2, 3, 4] from 5 (fun s2 s3 s4 wx => ∃ g2 g3 g4 : Nat, s2 = .pointer (some ⟨g2, 0, none⟩) ∧ s3 = .pointer (some ⟨g3, 0, none⟩) ∧ s4 = .pointer (some ⟨g4, 0, none⟩) ∧ Pls w [(g2, .rat x), (g3, .rat y), (g4, .rhole)] wx)
  case first =>
    go_wp2_with fail
    go_meet
    exact ⟨_, _, _, rfl, rfl, rfl, (((Pls.start w).boxRat H.out.1 rfl).boxRat (H.out.2.1.below ((Below.refl _ _).alloc (Nat.le_refl _) _)) (by simp)).newRhole (by simp)⟩
  obtain ⟨g2, g3, g4, rfl, rfl, rfl, hP⟩ := hcut
  obtain ⟨s2, A2, l2, k2, t2, A2', l2', k2', c0, c1, c2, c3, hr⟩ := hP.rat 1 rfl
  have HP := Lib.hid (And.intro hP hr)
  clear hP hr
  rcases Int.lt_or_gt_of_ne H.out.2.2.2.2 with hy | hy
  focus
    have hs : sgn y.num = -1 := by unfold sgn; rw [if_pos hy]
    have HN := Lib.hid (inv_num_neg hy)
    go_wp2_with fail
    refine (qsign_any HP.out.2).mono ?_
    rw [hs]
    rintro e w1 ⟨rfl, hb⟩
    have hP := HP.out.1.next hb
    clear hs hy hb HP c0 c1 c2 c3
    go_upto_region 5 with fail
    refine RelV.region_rest 9 [0, 1, 2, 3, 4, 5, 6, 7, 8] _ rfl rfl (R := [fun v w => IsRat w v (x), fun v w => IsRat w v (y), fun v w => IsInt w v (y.den : Int), fun v w => IsInt w v (y⁻¹).num, fun v _ => v = .pointer (some ⟨g3, 0, none⟩), fun v w => IsInt w v (y).num, fun v w => IsInt w v ((y⁻¹).den : Int), fun v w => IsRat w v (y⁻¹), fun v w => IsRat w v (x * y⁻¹)])
      (E := RE w [(g2, .rat x), (g3, .rat y), (g4, .rhole)] w1.heap.size 1000 1001) (T := fun w w' => Below w.heap.size w w') (by kernel_rfl) (by kernel_rfl) (by kernel_rfl) (RE.start hP 1000 1001) ?_ ?_ ?_
    · intro D vals i v w1 w2 hi hE hT hv
      match i, hi with
      | 0, _ | 1, _ | 7, _ | 8, _ => exact IsRat.below hv hT
      | 2, _ | 3, _ | 5, _ | 6, _ => exact IsInt.below hv hT (Nat.le_refl _)
      | 4, _ => exact hv
      | i + 9, hi => exact absurd hi (by omega)
    · refine RelV.Steps.cons (L := []) rfl (by kernel_rfl) ?_ ?_
      · intro vals w' D hE hF hR K hK
        obtain ⟨s, A, l, c, t, A', l', c', c0, c1, c2, c3, hi⟩ := hE.1.rat 0 rfl
        simp only [Rel.putL, Rel.dst, z1, z2, z3, z4, Act.put, z5, z6, z7] at hK ⊢
        go_simp
        exact hK _ _ hi (Below.refl _ _) (hE.same (by decide) (by decide))
      refine RelV.Steps.cons (L := []) rfl (by kernel_rfl) ?_ ?_
      · intro vals w' D hE hF hR K hK
        obtain ⟨s, A, l, c, t, A', l', c', c0, c1, c2, c3, hi⟩ := hE.1.rat 1 rfl
        simp only [Rel.putL, Rel.dst, z1, z2, z3, z4, Act.put, z5, z6, z7] at hK ⊢
        go_simp
        exact hK _ _ hi (Below.refl _ _) (hE.same (by decide) (by decide))
      refine RelV.Steps.cons (L := [1]) rfl (by kernel_rfl) ?_ ?_
      · intro vals w' D hE hF hR K hK
        have r1 := hR.1
        simp only [Rel.putL, Rel.dst, z1, z2, z3, z4, Act.put, z5, z6, z7] at hK ⊢
        go_simp
        go_at_call 103
        refine (den_any r1).mono ?_
        rintro e w2 ⟨v, rfl, hv, hb⟩
        exact hK _ _ hv hb (hE.step hb (by decide) (by decide))
      refine RelV.Steps.cons (L := [2]) rfl (by kernel_rfl) ?_ ?_
      · intro vals w' D hE hF hR K hK
        have r2 := hR.1
        simp only [Rel.putL, Rel.dst, z1, z2, z3, z4, Act.put, z5, z6, z7] at hK ⊢
        go_simp
        go_at_call 108
        refine (negated_any r2).mono ?_
        rintro e w2 ⟨v, rfl, hv, hb⟩
        rw [← HN.out.1] at hv
        exact hK _ _ hv hb (hE.step hb (by decide) (by decide))
      refine RelV.Steps.cons (L := []) rfl (by kernel_rfl) ?_ ?_
      · intro vals w' D hE hF hR K hK
        simp only [Rel.putL, Rel.dst, z1, z2, z3, z4, Act.put, z5, z6, z7] at hK ⊢
        go_simp
        exact hK _ _ rfl (Below.refl _ _) (hE.same (by decide) (by decide))
      refine RelV.Steps.cons (L := [4]) rfl (by kernel_rfl) ?_ ?_
      · intro vals w' D hE hF hR K hK
        have d4 : vals 4 = .pointer (some ⟨g3, 0, none⟩) := hR.1
        obtain ⟨s, A, l, c, t, A', l', c', c0, c1, c2, c3, hi⟩ := hE.1.rat 1 rfl
        simp only [Rel.putL, Rel.dst, z1, z2, z3, z4, Act.put, z5, z6, z7, d4] at hK ⊢
        go_simp
        exact hK _ _ hi.num (Below.refl _ _) (hE.same (by decide) (by decide))
      refine RelV.Steps.cons (L := [5]) rfl (by kernel_rfl) ?_ ?_
      · intro vals w' D hE hF hR K hK
        have r5 := hR.1
        simp only [Rel.putL, Rel.dst, z1, z2, z3, z4, Act.put, z5, z6, z7] at hK ⊢
        go_simp
        go_at_call 108
        refine (negated_any r5).mono ?_
        rintro e w2 ⟨v, rfl, hv, hb⟩
        rw [← HN.out.2] at hv
        exact hK _ _ hv hb (hE.step hb (by decide) (by decide))
      refine RelV.Steps.cons (L := [3, 6]) rfl (by kernel_rfl) ?_ ?_
      · intro vals w' D hE hF hR K hK
        have r3 := hR.1
        have r6 := hR.2.1
        obtain ⟨sn, An, ln, cn, en⟩ := r3.form
        rw [en] at r3
        obtain ⟨sd, Ad, ld, cd, ed⟩ := r6.form
        rw [ed] at r6
        simp only [Rel.putL, Rel.dst, z1, z2, z3, z4, Act.put, z5, z6, z7, en, ed] at hK ⊢
        go_simp
        exact hK _ _ (IsRat.mk r3 r6) (Below.refl _ _) (hE.same (by decide) (by decide))
      refine RelV.Steps.cons (L := [0, 7]) rfl (by kernel_rfl) ?_ ?_
      · intro vals w' D hE hF hR K hK
        have r0 := hR.1
        have r7 := hR.2.1
        simp only [Rel.putL, Rel.dst, z1, z2, z3, z4, Act.put, z5, z6, z7] at hK ⊢
        go_simp
        go_at_call 59
        refine (qtimes_any r0 r7 H.out.2.2.1 H.out.2.2.2.1 hk1 hk).mono ?_
        rintro e w2 ⟨v, rfl, hv, hb⟩
        exact hK _ _ hv hb (hE.step hb (by decide) (by decide))
      exact RelV.Steps.done
    · intro vals w1 D hD hE hR
      obtain ⟨r0, r1, r2, r3, r4, r5, r6, r7, r8, _⟩ := hR
      obtain ⟨sx, Ax, lx, cx, tx, Ax', lx', cx', ex⟩ := r8.shape
      rw [ex] at r8
      obtain ⟨m0, m1, m2, m3, d0, d1, d2, d3, f0, f1, f2, f3⟩ := hE.1.rhole 2 rfl
      have HV := Lib.hid (And.intro r8 hE.1)
      simp only [Rel.putL, Rel.dst, z1, z2, z3, z4, Act.put, z5, z6, z7, ex]
      clear hE hD r0 r1 r2 r3 r4 r5 r6 r7 r8
      go_wp2
      have hF := HV.out.2.rstored 2 rfl HV.out.1
      rw [show (((w1.setCell ⟨g4, 0, none⟩ (.int .i64 sx)).setCell ⟨g4, 1, none⟩ (.slice Ax lx cx)).setCell ⟨g4, 2, none⟩ (.int .i64 tx)).setCell ⟨g4, 3, none⟩ (.slice Ax' lx' cx') = stRat w1 g4 sx Ax lx cx tx Ax' lx' cx' from rfl]
      generalize stRat w1 g4 sx Ax lx cx tx Ax' lx' cx' = W3 at *
      obtain ⟨z0, z1, z2, z3, z4, z5⟩ := hF
      exact bodyPost_ret (v := .agg #[.int .i64 sx, .slice Ax lx cx, .int .i64 tx, .slice Ax' lx' cx']) (by simp [results, Tryz.results61, go_sem, z0, z1, z2, z3]) rfl ⟨_, rfl, z4, z5.below⟩
  focus
    have hs : sgn y.num = 1 := by unfold sgn; rw [if_neg (by omega), if_pos hy]
    have HN := Lib.hid (inv_num_pos hy)
    go_wp2_with fail
    refine (qsign_any HP.out.2).mono ?_
    rw [hs]
    rintro e w1 ⟨rfl, hb⟩
    have hP := HP.out.1.next hb
    clear hs hy hb HP c0 c1 c2 c3
    go_upto_region 6 with fail
    refine RelV.region_rest 7 [0, 1, 2, 3, 4, 5, 6] _ rfl rfl (R := [fun v w => IsRat w v (x), fun v w => IsRat w v (y), fun v w => IsInt w v (y⁻¹).num, fun v _ => v = .pointer (some ⟨g3, 0, none⟩), fun v w => IsInt w v ((y⁻¹).den : Int), fun v w => IsRat w v (y⁻¹), fun v w => IsRat w v (x * y⁻¹)])
      (E := RE w [(g2, .rat x), (g3, .rat y), (g4, .rhole)] w1.heap.size 1000 1001) (T := fun w w' => Below w.heap.size w w') (by kernel_rfl) (by kernel_rfl) (by kernel_rfl) (RE.start hP 1000 1001) ?_ ?_ ?_
    · intro D vals i v w1 w2 hi hE hT hv
      match i, hi with
      | 0, _ | 1, _ | 5, _ | 6, _ => exact IsRat.below hv hT
      | 2, _ | 4, _ => exact IsInt.below hv hT (Nat.le_refl _)
      | 3, _ => exact hv
      | i + 7, hi => exact absurd hi (by omega)
    · refine RelV.Steps.cons (L := []) rfl (by kernel_rfl) ?_ ?_
      · intro vals w' D hE hF hR K hK
        obtain ⟨s, A, l, c, t, A', l', c', c0, c1, c2, c3, hi⟩ := hE.1.rat 0 rfl
        simp only [Rel.putL, Rel.dst, z1, z2, z3, z4, Act.put, z5, z6, z7] at hK ⊢
        go_simp
        exact hK _ _ hi (Below.refl _ _) (hE.same (by decide) (by decide))
      refine RelV.Steps.cons (L := []) rfl (by kernel_rfl) ?_ ?_
      · intro vals w' D hE hF hR K hK
        obtain ⟨s, A, l, c, t, A', l', c', c0, c1, c2, c3, hi⟩ := hE.1.rat 1 rfl
        simp only [Rel.putL, Rel.dst, z1, z2, z3, z4, Act.put, z5, z6, z7] at hK ⊢
        go_simp
        exact hK _ _ hi (Below.refl _ _) (hE.same (by decide) (by decide))
      refine RelV.Steps.cons (L := [1]) rfl (by kernel_rfl) ?_ ?_
      · intro vals w' D hE hF hR K hK
        have r1 := hR.1
        simp only [Rel.putL, Rel.dst, z1, z2, z3, z4, Act.put, z5, z6, z7] at hK ⊢
        go_simp
        go_at_call 103
        refine (den_any r1).mono ?_
        rintro e w2 ⟨v, rfl, hv, hb⟩
        rw [← HN.out.1] at hv
        exact hK _ _ hv hb (hE.step hb (by decide) (by decide))
      refine RelV.Steps.cons (L := []) rfl (by kernel_rfl) ?_ ?_
      · intro vals w' D hE hF hR K hK
        simp only [Rel.putL, Rel.dst, z1, z2, z3, z4, Act.put, z5, z6, z7] at hK ⊢
        go_simp
        exact hK _ _ rfl (Below.refl _ _) (hE.same (by decide) (by decide))
      refine RelV.Steps.cons (L := [3]) rfl (by kernel_rfl) ?_ ?_
      · intro vals w' D hE hF hR K hK
        have d3 : vals 3 = .pointer (some ⟨g3, 0, none⟩) := hR.1
        obtain ⟨s, A, l, c, t, A', l', c', c0, c1, c2, c3, hi⟩ := hE.1.rat 1 rfl
        simp only [Rel.putL, Rel.dst, z1, z2, z3, z4, Act.put, z5, z6, z7, d3] at hK ⊢
        go_simp
        exact hK _ _ (by rw [HN.out.2]; exact hi.num) (Below.refl _ _) (hE.same (by decide) (by decide))
      refine RelV.Steps.cons (L := [2, 4]) rfl (by kernel_rfl) ?_ ?_
      · intro vals w' D hE hF hR K hK
        have r2 := hR.1
        have r4 := hR.2.1
        obtain ⟨sn, An, ln, cn, en⟩ := r2.form
        rw [en] at r2
        obtain ⟨sd, Ad, ld, cd, ed⟩ := r4.form
        rw [ed] at r4
        simp only [Rel.putL, Rel.dst, z1, z2, z3, z4, Act.put, z5, z6, z7, en, ed] at hK ⊢
        go_simp
        exact hK _ _ (IsRat.mk r2 r4) (Below.refl _ _) (hE.same (by decide) (by decide))
      refine RelV.Steps.cons (L := [0, 5]) rfl (by kernel_rfl) ?_ ?_
      · intro vals w' D hE hF hR K hK
        have r0 := hR.1
        have r5 := hR.2.1
        simp only [Rel.putL, Rel.dst, z1, z2, z3, z4, Act.put, z5, z6, z7] at hK ⊢
        go_simp
        go_at_call 59
        refine (qtimes_any r0 r5 H.out.2.2.1 H.out.2.2.2.1 hk1 hk).mono ?_
        rintro e w2 ⟨v, rfl, hv, hb⟩
        exact hK _ _ hv hb (hE.step hb (by decide) (by decide))
      exact RelV.Steps.done
    · intro vals w1 D hD hE hR
      obtain ⟨r0, r1, r2, r3, r4, r5, r6, _⟩ := hR
      obtain ⟨sx, Ax, lx, cx, tx, Ax', lx', cx', ex⟩ := r6.shape
      rw [ex] at r6
      obtain ⟨m0, m1, m2, m3, d0, d1, d2, d3, f0, f1, f2, f3⟩ := hE.1.rhole 2 rfl
      have HV := Lib.hid (And.intro r6 hE.1)
      simp only [Rel.putL, Rel.dst, z1, z2, z3, z4, Act.put, z5, z6, z7, ex]
      clear hE hD r0 r1 r2 r3 r4 r5 r6
      go_wp2
      have hF := HV.out.2.rstored 2 rfl HV.out.1
      rw [show (((w1.setCell ⟨g4, 0, none⟩ (.int .i64 sx)).setCell ⟨g4, 1, none⟩ (.slice Ax lx cx)).setCell ⟨g4, 2, none⟩ (.int .i64 tx)).setCell ⟨g4, 3, none⟩ (.slice Ax' lx' cx') = stRat w1 g4 sx Ax lx cx tx Ax' lx' cx' from rfl]
      generalize stRat w1 g4 sx Ax lx cx tx Ax' lx' cx' = W3 at *
      obtain ⟨z0, z1, z2, z3, z4, z5⟩ := hF
      exact bodyPost_ret (v := .agg #[.int .i64 sx, .slice Ax lx cx, .int .i64 tx, .slice Ax' lx' cx']) (by simp [results, Tryz.results61, go_sem, z0, z1, z2, z3]) rfl ⟨_, rfl, z4, z5.below⟩

set_option linter.unusedSimpArgs false in
set_option maxHeartbeats 4000000 in
set_option maxRecDepth 100000 in
theorem makeRat_any {w : World} {a b : Value} {p q : Int} {k : Nat} (ha : IsInt w a p) (hb : IsInt w b q) (hq0 : q ≠ 0) (hp : p.natAbs < M.B ^ k) (hq : q.natAbs < M.B ^ k) (hk1 : 1 ≤ k) (hk : k ≤ 14000) :
    Calls Tryz.prog 79 #[a, b] w fun e w' => ∃ v, e = .returned v ∧ IsRat w' v (Rat.divInt p q) ∧ Below w.heap.size w w' := by
  obtain ⟨s, A, l, c, rfl⟩ := ha.form
  obtain ⟨s1, A1, l1, c1, rfl⟩ := hb.form
  obtain ⟨G, hG⟩ : ∃ G : Int, G = ((Nat.gcd p.natAbs q.natAbs : Nat) : Int) := ⟨_, rfl⟩
  have hGp : 0 < Nat.gcd p.natAbs q.natAbs := Nat.gcd_pos_of_pos_right _ (by omega)
  have hGk : G ≠ 0 ∧ G.natAbs < M.B ^ k := by
    have : Nat.gcd p.natAbs q.natAbs ≤ q.natAbs := Nat.gcd_le_right _ (by omega)
    rw [hG, Int.natAbs_natCast]
    exact ⟨by omega, by omega⟩
  have H := Lib.hid (And.intro ha (And.intro hb (And.intro hp (And.intro hq (And.intro hG (And.intro hGk hq0))))))
  clear ha hb hp hq hG hGk hGp
  go_enter Tryz.func79, Tryz.ntmps79
  go_upto_region 0 with fail
  go_cut [2, 3, 4] from 6 (fun s2 s3 s4 wx => ∃ g2 g3 g4 : Nat, s2 = .pointer (some ⟨g2, 0, none⟩) ∧ s3 = .pointer (some ⟨g3, 0, none⟩) ∧ s4 = .pointer (some ⟨g4, 0, none⟩) ∧ Pls w [(g2, .int p), (g3, .int q), (g4, .rhole)] wx)
  case first =>
    go_wp2_with fail
    go_meet
    exact ⟨_, _, _, rfl, rfl, rfl, (((Pls.start w).boxInt H.out.1 rfl).boxInt (H.out.2.1.below ((Below.refl _ _).alloc (Nat.le_refl _) _) (Nat.le_refl _)) (by simp)).newRhole (by simp)⟩
  obtain ⟨g2, g3, g4, rfl, rfl, rfl, hP⟩ := hcut
  go_upto_region 1 with fail
  go_cut [5] from 6 (fun s5 wx => ∃ g5 : Nat, s5 = .pointer (some ⟨g5, 0, none⟩) ∧ Pls w [(g2, .int p), (g3, .int q), (g4, .rhole), (g5, .int G)] wx)
  case first =>
    obtain ⟨s, A, l, c, c0, c1, hi⟩ := hP.int 0 rfl
    obtain ⟨t, A', l', c', c2, c3, hj⟩ := hP.int 1 rfl
    have HP := Lib.hid hP
    clear hP
    go_wp2_with fail
    refine (gcd_G H.out.2.2.2.2.1 hi hj H.out.2.2.1 H.out.2.2.2.1 hk1 (by omega)).mono ?_
    rintro e w1 ⟨v, rfl, hv, hb⟩
    obtain ⟨sv, Av, lv, cv, rfl⟩ := hv.form
    have HR := Lib.hid (And.intro (HP.out.next hb) hv)
    clear hv hb
    go_wp2_with fail
    go_meet
    exact ⟨_, rfl, HR.out.1.boxInt HR.out.2 rfl⟩
  clear hP
  obtain ⟨g5, rfl, hP⟩ := hcut
  obtain ⟨s2, A2, l2, k2, c0, c1, hr⟩ := hP.int 1 rfl
  have HP := Lib.hid (And.intro hP hr)
  clear hP hr
  rcases Int.lt_or_gt_of_ne hq0 with hy | hy
  focus
    have hs : sgn q = -1 := by unfold sgn; rw [if_pos hy]
    have hnn := F.new_neg (n := p) hy
    rw [← H.out.2.2.2.2.1] at hnn
    have HN := Lib.hid (show (Rat.divInt p q).num = p / (-G) ∧ ((Rat.divInt p q).den : Int) = q / (-G) by rw [Int.ediv_neg, Int.ediv_neg]; exact hnn)
    go_upto_region 2 with fail
    go_wp2_with fail
    refine (sign_any HP.out.2).mono ?_
    rw [hs]
    rintro e w1 ⟨rfl, hb⟩
    have hP := HP.out.1.next hb
    obtain ⟨s3, A3, l3, k3, e0, e1, hr3⟩ := hP.int 3 rfl
    have HQ := Lib.hid (And.intro hP hr3)
    clear hs hy hb HP c0 c1 hnn hP hr3
    go_wp2_with fail
    refine (negated_any HQ.out.2).mono ?_
    rintro e w2 ⟨v, rfl, hv, hb⟩
    obtain ⟨s4, A4, l4, k4, rfl⟩ := hv.form
    have hP2 := (HQ.out.1.next hb).left 3 rfl
    obtain ⟨m0, m1, d0, d1, f0, f1⟩ := hP2.hole 3 rfl
    have HV := Lib.hid (hP2.storeInt 3 rfl hv)
    clear hP2 hv hb HQ e0 e1
    go_upto_region 7 with fail
    rw [show (w2.setCell ⟨g5, 0, none⟩ (.int .i64 s4)).setCell ⟨g5, 1, none⟩ (.slice A4 l4 k4) = stInt w2 g5 s4 A4 l4 k4 from rfl]
    have hP := HV.out
    generalize stInt w2 g5 s4 A4 l4 k4 = w3 at *
    clear HV d0 d1 f0 f1
    refine RelV.region_rest 7 [0, 1, 2, 3, 4, 5, 6] _ rfl rfl (R := [fun v w => IsInt w v (p), fun v w => IsInt w v ((-G)), fun v w => IsInt w v (Rat.divInt p q).num, fun v w => IsInt w v (q), fun v w => IsInt w v ((-G)), fun v w => IsInt w v ((Rat.divInt p q).den : Int), fun v w => IsRat w v (Rat.divInt p q)])
      (E := RE w [(g2, .int p), (g3, .int q), (g4, .rhole), (g5, .int (-G))] w3.heap.size 1000 1001) (T := fun w w' => Below w.heap.size w w') (by kernel_rfl) (by kernel_rfl) (by kernel_rfl) (RE.start hP 1000 1001) ?_ ?_ ?_
    · intro D vals i v w1 w2 hi hE hT hv
      match i, hi with
      | 6, _ => exact IsRat.below hv hT
      | 0, _ | 1, _ | 2, _ | 3, _ | 4, _ | 5, _ => exact IsInt.below hv hT (Nat.le_refl _)
      | i + 7, hi => exact absurd hi (by omega)
    · refine RelV.Steps.cons (L := []) rfl (by kernel_rfl) ?_ ?_
      · intro vals w' D hE hF hR K hK
        obtain ⟨s, A, l, c, c0, c1, hi⟩ := hE.1.int 0 rfl
        simp only [Rel.putL, Rel.dst, z1, z2, z3, z4, Act.put, z5, z6, z7] at hK ⊢
        go_simp
        exact hK _ _ hi (Below.refl _ _) (hE.same (by decide) (by decide))
      refine RelV.Steps.cons (L := []) rfl (by kernel_rfl) ?_ ?_
      · intro vals w' D hE hF hR K hK
        obtain ⟨s, A, l, c, c0, c1, hi⟩ := hE.1.int 3 rfl
        simp only [Rel.putL, Rel.dst, z1, z2, z3, z4, Act.put, z5, z6, z7] at hK ⊢
        go_simp
        exact hK _ _ hi (Below.refl _ _) (hE.same (by decide) (by decide))
      refine RelV.Steps.cons (L := [0, 1]) rfl (by kernel_rfl) ?_ ?_
      · intro vals w' D hE hF hR K hK
        have r0 := hR.1
        have r1 := hR.2.1
        simp only [Rel.putL, Rel.dst, z1, z2, z3, z4, Act.put, z5, z6, z7] at hK ⊢
        go_simp
        go_at_call 105
        refine (part_any r0 r1 (by have := H.out.2.2.2.2.2.1.1; omega) H.out.2.2.1 (by rw [Int.natAbs_neg]; exact H.out.2.2.2.2.2.1.2) hk1 (by omega)).mono ?_
        rintro e w2 ⟨v, rfl, hv, hb⟩
        rw [← HN.out.1] at hv
        exact hK _ _ hv hb (hE.step hb (by decide) (by decide))
      refine RelV.Steps.cons (L := []) rfl (by kernel_rfl) ?_ ?_
      · intro vals w' D hE hF hR K hK
        obtain ⟨s, A, l, c, c0, c1, hi⟩ := hE.1.int 1 rfl
        simp only [Rel.putL, Rel.dst, z1, z2, z3, z4, Act.put, z5, z6, z7] at hK ⊢
        go_simp
        exact hK _ _ hi (Below.refl _ _) (hE.same (by decide) (by decide))
      refine RelV.Steps.cons (L := []) rfl (by kernel_rfl) ?_ ?_
      · intro vals w' D hE hF hR K hK
        obtain ⟨s, A, l, c, c0, c1, hi⟩ := hE.1.int 3 rfl
        simp only [Rel.putL, Rel.dst, z1, z2, z3, z4, Act.put, z5, z6, z7] at hK ⊢
        go_simp
        exact hK _ _ hi (Below.refl _ _) (hE.same (by decide) (by decide))
      refine RelV.Steps.cons (L := [3, 4]) rfl (by kernel_rfl) ?_ ?_
      · intro vals w' D hE hF hR K hK
        have r3 := hR.1
        have r4 := hR.2.1
        simp only [Rel.putL, Rel.dst, z1, z2, z3, z4, Act.put, z5, z6, z7] at hK ⊢
        go_simp
        go_at_call 105
        refine (part_any r3 r4 (by have := H.out.2.2.2.2.2.1.1; omega) H.out.2.2.2.1 (by rw [Int.natAbs_neg]; exact H.out.2.2.2.2.2.1.2) hk1 (by omega)).mono ?_
        rintro e w2 ⟨v, rfl, hv, hb⟩
        rw [← HN.out.2] at hv
        exact hK _ _ hv hb (hE.step hb (by decide) (by decide))
      refine RelV.Steps.cons (L := [2, 5]) rfl (by kernel_rfl) ?_ ?_
      · intro vals w' D hE hF hR K hK
        have r2 := hR.1
        have r5 := hR.2.1
        obtain ⟨sn, An, ln, cn, en⟩ := r2.form
        rw [en] at r2
        obtain ⟨sd, Ad, ld, cd, ed⟩ := r5.form
        rw [ed] at r5
        simp only [Rel.putL, Rel.dst, z1, z2, z3, z4, Act.put, z5, z6, z7, en, ed] at hK ⊢
        go_simp
        exact hK _ _ (IsRat.mk r2 r5) (Below.refl _ _) (hE.same (by decide) (by decide))
      exact RelV.Steps.done
    · intro vals w1 D hD hE hR
      obtain ⟨r0, r1, r2, r3, r4, r5, r6, _⟩ := hR
      obtain ⟨sx, Ax, lx, cx, tx, Ax', lx', cx', ex⟩ := r6.shape
      rw [ex] at r6
      obtain ⟨m0, m1, m2, m3, d0, d1, d2, d3, f0, f1, f2, f3⟩ := hE.1.rhole 2 rfl
      have HV := Lib.hid (And.intro r6 hE.1)
      simp only [Rel.putL, Rel.dst, z1, z2, z3, z4, Act.put, z5, z6, z7, ex]
      clear hE hD r0 r1 r2 r3 r4 r5 r6
      go_wp2
      have hF := HV.out.2.rstored 2 rfl HV.out.1
      rw [show (((w1.setCell ⟨g4, 0, none⟩ (.int .i64 sx)).setCell ⟨g4, 1, none⟩ (.slice Ax lx cx)).setCell ⟨g4, 2, none⟩ (.int .i64 tx)).setCell ⟨g4, 3, none⟩ (.slice Ax' lx' cx') = stRat w1 g4 sx Ax lx cx tx Ax' lx' cx' from rfl]
      generalize stRat w1 g4 sx Ax lx cx tx Ax' lx' cx' = W3 at *
      obtain ⟨z0, z1, z2, z3, z4, z5⟩ := hF
      exact bodyPost_ret (v := .agg #[.int .i64 sx, .slice Ax lx cx, .int .i64 tx, .slice Ax' lx' cx']) (by simp [results, Tryz.results79, go_sem, z0, z1, z2, z3]) rfl ⟨_, rfl, z4, z5.below⟩
  focus
    have hs : sgn q = 1 := by unfold sgn; rw [if_neg (by omega), if_pos hy]
    have hnn := F.new_pos (n := p) hy
    rw [← H.out.2.2.2.2.1] at hnn
    have HN := Lib.hid hnn
    go_upto_region 2 with fail
    go_wp2_with fail
    refine (sign_any HP.out.2).mono ?_
    rw [hs]
    rintro e w1 ⟨rfl, hb⟩
    have hP := HP.out.1.next hb
    clear hs hy hb HP c0 c1 hnn
    go_upto_region 7 with fail
    refine RelV.region_rest 7 [0, 1, 2, 3, 4, 5, 6] _ rfl rfl (R := [fun v w => IsInt w v (p), fun v w => IsInt w v (G), fun v w => IsInt w v (Rat.divInt p q).num, fun v w => IsInt w v (q), fun v w => IsInt w v (G), fun v w => IsInt w v ((Rat.divInt p q).den : Int), fun v w => IsRat w v (Rat.divInt p q)])
      (E := RE w [(g2, .int p), (g3, .int q), (g4, .rhole), (g5, .int G)] w1.heap.size 1000 1001) (T := fun w w' => Below w.heap.size w w') (by kernel_rfl) (by kernel_rfl) (by kernel_rfl) (RE.start hP 1000 1001) ?_ ?_ ?_
    · intro D vals i v w1 w2 hi hE hT hv
      match i, hi with
      | 6, _ => exact IsRat.below hv hT
      | 0, _ | 1, _ | 2, _ | 3, _ | 4, _ | 5, _ => exact IsInt.below hv hT (Nat.le_refl _)
      | i + 7, hi => exact absurd hi (by omega)
    · refine RelV.Steps.cons (L := []) rfl (by kernel_rfl) ?_ ?_
      · intro vals w' D hE hF hR K hK
        obtain ⟨s, A, l, c, c0, c1, hi⟩ := hE.1.int 0 rfl
        simp only [Rel.putL, Rel.dst, z1, z2, z3, z4, Act.put, z5, z6, z7] at hK ⊢
        go_simp
        exact hK _ _ hi (Below.refl _ _) (hE.same (by decide) (by decide))
      refine RelV.Steps.cons (L := []) rfl (by kernel_rfl) ?_ ?_
      · intro vals w' D hE hF hR K hK
        obtain ⟨s, A, l, c, c0, c1, hi⟩ := hE.1.int 3 rfl
        simp only [Rel.putL, Rel.dst, z1, z2, z3, z4, Act.put, z5, z6, z7] at hK ⊢
        go_simp
        exact hK _ _ hi (Below.refl _ _) (hE.same (by decide) (by decide))
      refine RelV.Steps.cons (L := [0, 1]) rfl (by kernel_rfl) ?_ ?_
      · intro vals w' D hE hF hR K hK
        have r0 := hR.1
        have r1 := hR.2.1
        simp only [Rel.putL, Rel.dst, z1, z2, z3, z4, Act.put, z5, z6, z7] at hK ⊢
        go_simp
        go_at_call 105
        refine (part_any r0 r1 H.out.2.2.2.2.2.1.1 H.out.2.2.1 H.out.2.2.2.2.2.1.2 hk1 (by omega)).mono ?_
        rintro e w2 ⟨v, rfl, hv, hb⟩
        rw [← HN.out.1] at hv
        exact hK _ _ hv hb (hE.step hb (by decide) (by decide))
      refine RelV.Steps.cons (L := []) rfl (by kernel_rfl) ?_ ?_
      · intro vals w' D hE hF hR K hK
        obtain ⟨s, A, l, c, c0, c1, hi⟩ := hE.1.int 1 rfl
        simp only [Rel.putL, Rel.dst, z1, z2, z3, z4, Act.put, z5, z6, z7] at hK ⊢
        go_simp
        exact hK _ _ hi (Below.refl _ _) (hE.same (by decide) (by decide))
      refine RelV.Steps.cons (L := []) rfl (by kernel_rfl) ?_ ?_
      · intro vals w' D hE hF hR K hK
        obtain ⟨s, A, l, c, c0, c1, hi⟩ := hE.1.int 3 rfl
        simp only [Rel.putL, Rel.dst, z1, z2, z3, z4, Act.put, z5, z6, z7] at hK ⊢
        go_simp
        exact hK _ _ hi (Below.refl _ _) (hE.same (by decide) (by decide))
      refine RelV.Steps.cons (L := [3, 4]) rfl (by kernel_rfl) ?_ ?_
      · intro vals w' D hE hF hR K hK
        have r3 := hR.1
        have r4 := hR.2.1
        simp only [Rel.putL, Rel.dst, z1, z2, z3, z4, Act.put, z5, z6, z7] at hK ⊢
        go_simp
        go_at_call 105
        refine (part_any r3 r4 H.out.2.2.2.2.2.1.1 H.out.2.2.2.1 H.out.2.2.2.2.2.1.2 hk1 (by omega)).mono ?_
        rintro e w2 ⟨v, rfl, hv, hb⟩
        rw [← HN.out.2] at hv
        exact hK _ _ hv hb (hE.step hb (by decide) (by decide))
      refine RelV.Steps.cons (L := [2, 5]) rfl (by kernel_rfl) ?_ ?_
      · intro vals w' D hE hF hR K hK
        have r2 := hR.1
        have r5 := hR.2.1
        obtain ⟨sn, An, ln, cn, en⟩ := r2.form
        rw [en] at r2
        obtain ⟨sd, Ad, ld, cd, ed⟩ := r5.form
        rw [ed] at r5
        simp only [Rel.putL, Rel.dst, z1, z2, z3, z4, Act.put, z5, z6, z7, en, ed] at hK ⊢
        go_simp
        exact hK _ _ (IsRat.mk r2 r5) (Below.refl _ _) (hE.same (by decide) (by decide))
      exact RelV.Steps.done
    · intro vals w1 D hD hE hR
      obtain ⟨r0, r1, r2, r3, r4, r5, r6, _⟩ := hR
      obtain ⟨sx, Ax, lx, cx, tx, Ax', lx', cx', ex⟩ := r6.shape
      rw [ex] at r6
      obtain ⟨m0, m1, m2, m3, d0, d1, d2, d3, f0, f1, f2, f3⟩ := hE.1.rhole 2 rfl
      have HV := Lib.hid (And.intro r6 hE.1)
      simp only [Rel.putL, Rel.dst, z1, z2, z3, z4, Act.put, z5, z6, z7, ex]
      clear hE hD r0 r1 r2 r3 r4 r5 r6
      go_wp2
      have hF := HV.out.2.rstored 2 rfl HV.out.1
      rw [show (((w1.setCell ⟨g4, 0, none⟩ (.int .i64 sx)).setCell ⟨g4, 1, none⟩ (.slice Ax lx cx)).setCell ⟨g4, 2, none⟩ (.int .i64 tx)).setCell ⟨g4, 3, none⟩ (.slice Ax' lx' cx') = stRat w1 g4 sx Ax lx cx tx Ax' lx' cx' from rfl]
      generalize stRat w1 g4 sx Ax lx cx tx Ax' lx' cx' = W3 at *
      obtain ⟨z0, z1, z2, z3, z4, z5⟩ := hF
      exact bodyPost_ret (v := .agg #[.int .i64 sx, .slice Ax lx cx, .int .i64 tx, .slice Ax' lx' cx']) (by simp [results, Tryz.results79, go_sem, z0, z1, z2, z3]) rfl ⟨_, rfl, z4, z5.below⟩
end Go.Proofs.YtfogkkanifnppaaGreatDoor
