/- The fractions of the reference: New, Add, Sub, Mul, Div, Read, Of, Give. -/
import Derived.Test.YtigplffpnbdkeaaGreatDoorDPls
namespace Go.Proofs.YtigplffpnbdkeaaGreatDoor
open Go Go.RowKit

theorem dneg_any {w : World} {v : Value} {z : Int} (h : DBig w v z) :
    Calls Tryz.prog 100 #[v] w fun e w' => ∃ v, e = .returned v ∧ DBig w' v (-z) ∧ Below w.heap.size w w' := by
  refine (rneg_any h).mono ?_
  rintro e w' ⟨s, rfl, hs, hb⟩
  exact ⟨_, rfl, DSz.big (by rw [Int.natAbs_neg]; exact hs), hb⟩
theorem dquo_any {w : World} {u v : Value} {x y : Int} {k : Nat} (hx : DBig w u x) (hy : DBig w v y) (hy0 : y ≠ 0) (bx : x.natAbs < D.B ^ k) (by_ : y.natAbs < D.B ^ k) (hk : k ≤ 20000) :
    Calls Tryz.prog 99 #[u, v] w fun e w' => ∃ q r, e = .returned (.tuple #[q, r]) ∧ DBig w' q (x.tdiv y) ∧ DBig w' r (x.tmod y) ∧ Below w.heap.size w w' := by
  refine (rquo_any hx hy hy0 bx by_ hk).mono ?_
  rintro e w' ⟨q, r, rfl, hq, hr, hb⟩
  exact ⟨_, _, rfl, hq.big, hr.big, hb⟩
theorem dgcd_any {w : World} {u v : Value} {x y G : Int} {k : Nat} (hG : G = ((Nat.gcd x.natAbs y.natAbs : Nat) : Int)) (hx : DBig w u x) (hy : DBig w v y) (bx : x.natAbs < D.B ^ k) (by_ : y.natAbs < D.B ^ k) (hk : k ≤ 20000) :
    Calls Tryz.prog 56 #[u, v] w fun e w' => ∃ v, e = .returned v ∧ DBig w' v G ∧ Below w.heap.size w w' := by
  refine (rgcd_any hx hy bx by_ hk).mono ?_
  rintro e w' ⟨s, rfl, hs, hb⟩
  have h0 : decide (G < 0) = false := decide_eq_false (by rw [hG]; omega)
  refine ⟨_, rfl, ?_, hb⟩
  rw [← h0]
  exact DSz.big (by rw [hG, Int.natAbs_natCast]; exact hs)
theorem dread_any {w : World} (s : ByteArray) {z : Int} (hs : s.data.toList = Lib.itoa z) (hn : Lib.nDigits z.natAbs ≤ 400) :
    Calls Tryz.prog 54 #[.string s] w fun e w' => ∃ v, e = .returned v ∧ DBig w' v z ∧ Below w.heap.size w w' := by
  refine (rread_any s hs hn).mono ?_
  rintro e w' ⟨v, rfl, hv, hb⟩
  exact ⟨_, rfl, hv.big, hb⟩
theorem dof_any {w : World} (n : Int) (h1 : -9223372036854775808 ≤ n) (h2 : n ≤ 9223372036854775807) :
    Calls Tryz.prog 50 #[.int .i64 n] w fun e w' => ∃ v, e = .returned v ∧ DBig w' v n ∧ Below w.heap.size w w' := by
  refine (rof_any n h1 h2).mono ?_
  rintro e w' ⟨v, rfl, hv, hb⟩
  exact ⟨_, rfl, hv.big, hb⟩
theorem DPs.bleft {w0 w : World} {ps : List (Nat × DP)} (h : DPs w0 ps w) (i : Nat) {g : Nat} {z : Int} (hp : ps[i]? = some (g, .int z)) : DPs w0 (ps.set i (g, .hole)) w := h.left i hp
theorem tdiv_of_dvd {z : Int} {g : Int} (h : g ∣ z) : z.tdiv g = z / g := by
  obtain ⟨k, rfl⟩ := h
  by_cases h0 : g = 0
  · subst h0; simp
  · rw [Int.mul_tdiv_cancel_left _ h0, Int.mul_ediv_cancel_left _ h0]
theorem DBig.neg {w : World} {s : Bool} {u : Value} {z : Int} (h : DBig w (.agg #[.bool s, u]) z) : s = decide (z < 0) := by
  obtain ⟨A, l, c, e, _⟩ := h
  injection e with e
  simp at e
  exact e.1
theorem DBig.len {w : World} {s : Bool} {A : Option Addr} {l c : Nat} {z : Int} (h : DBig w (.agg #[.bool s, .slice A l c]) z) : (l = 0 ↔ z = 0) ∧ l ≤ maxLen := by
  obtain ⟨A', l', c', e, ⟨hn, _⟩, hm, hc, hcm⟩ := h
  injection e with e
  simp at e
  obtain ⟨_, rfl, rfl, rfl⟩ := e
  refine ⟨⟨fun h0 => ?_, fun h0 => ?_⟩, Nat.le_trans hc hcm⟩
  · subst h0; simp at hn; exact hn
  · subst h0
    rcases hm with h1 | h1
    · exact h1
    · have := Nat.pow_pos (n := l - 1) (show 0 < D.B by have := D.B_one; omega)
      exact absurd (Nat.lt_of_lt_of_le this h1) (by decide)
set_option linter.unusedSimpArgs false in
set_option maxHeartbeats 4000000 in
set_option maxRecDepth 100000 in
theorem dnewOf {w : World} (n : Int) (h1 : -9223372036854775808 ≤ n) (h2 : n ≤ 9223372036854775807) :
    Calls Tryz.prog 45 #[.int .i64 n] w fun e w' => ∃ v, e = .returned v ∧ IsFrac w' v (n : Rat) ∧ Below w.heap.size w w' := by
  go_enter Tryz.func45, Tryz.ntmps45
  go_upto_region 1 with fail
  have hP := (DPs.start w).newRhole rfl
  generalize w.alloc (.cells #[.bool false, .slice none 0 0, .bool false, .slice none 0 0] 87) = w0 at *
  go_wp2_with fail
  refine (dof_any n h1 h2).mono ?_
  rintro e w1 ⟨v, rfl, hv, hb⟩
  obtain ⟨s2, A2, l2, k2, rfl⟩ := hv.form
  have H2 := Lib.hid (And.intro hv (hP.next hb))
  clear hv hb hP
  go_wp2_with fail
  refine (dof_any 1 (by decide) (by decide)).mono ?_
  rintro e w3 ⟨v, rfl, hv, hb⟩
  obtain ⟨s3, A3, l3, k3, rfl⟩ := hv.form
  have hP3 := H2.out.2.next hb
  have hu := IsFrac.mk (x := (n : Rat)) (H2.out.1.below hb (Nat.le_refl _)) hv
  clear hv hb
  obtain ⟨m0, m1, m2, m3, d0, d1, d2, d3, f0, f1, f2, f3⟩ := hP3.rhole 0 rfl
  have HV := Lib.hid (And.intro hu hP3)
  clear hu hP3
  go_wp2
  have hF := HV.out.2.rstored 0 rfl HV.out.1
  rw [show (((w3.setCell ⟨w.heap.size, 0, none⟩ (.bool s2)).setCell ⟨w.heap.size, 1, none⟩ (.slice A2 l2 k2)).setCell ⟨w.heap.size, 2, none⟩ (.bool s3)).setCell ⟨w.heap.size, 3, none⟩ (.slice A3 l3 k3) = stFrac w3 w.heap.size s2 A2 l2 k2 s3 A3 l3 k3 from rfl]
  generalize stFrac w3 w.heap.size s2 A2 l2 k2 s3 A3 l3 k3 = W3 at *
  obtain ⟨z0, z1, z2, z3, z4, z5⟩ := hF
  exact bodyPost_ret (v := .agg #[.bool s2, .slice A2 l2 k2, .bool s3, .slice A3 l3 k3]) (by simp [results, Tryz.results45, go_sem, z0, z1, z2, z3]) rfl ⟨_, rfl, z4, z5.below⟩
set_option linter.unusedSimpArgs false in
set_option maxHeartbeats 4000000 in
set_option maxRecDepth 100000 in
theorem dnew_any {w : World} {a b : Value} {p q : Int} {k : Nat} (ha : DBig w a p) (hb : DBig w b q) (hp : p.natAbs < D.B ^ k) (hq : q.natAbs < D.B ^ k) (hk : k ≤ 20000) :
    Calls Tryz.prog 53 #[a, b] w fun e w' => ∃ v, e = .returned v ∧ IsFrac w' v (Rat.divInt p q) ∧ Below w.heap.size w w' := by
  obtain ⟨s, A, l, c, rfl⟩ := ha.form
  obtain ⟨s1, A1, l1, c1, rfl⟩ := hb.form
  obtain ⟨G, hG⟩ : ∃ G : Int, G = ((Nat.gcd p.natAbs q.natAbs : Nat) : Int) := ⟨_, rfl⟩
  have HH := Lib.hid hG
  have H := Lib.hid (And.intro ha (And.intro hb (And.intro hp hq)))
  clear ha hb hp hq
  go_enter Tryz.func53, Tryz.ntmps53
  go_upto_region 0 with fail
  go_cut [2, 3, 4] from 5 (fun s2 s3 s4 wx => ∃ g2 g3 g4 : Nat, s2 = .pointer (some ⟨g2, 0, none⟩) ∧ s3 = .pointer (some ⟨g3, 0, none⟩) ∧ s4 = .pointer (some ⟨g4, 0, none⟩) ∧ DPs w [(g2, .int p), (g3, .int q), (g4, .rhole)] wx)
  case first =>
    go_wp2_with fail
    go_meet
    exact ⟨_, _, _, rfl, rfl, rfl, (((DPs.start w).boxInt H.out.1 rfl).boxInt (H.out.2.1.below ((Below.refl _ _).alloc (Nat.le_refl _) _) (Nat.le_refl _)) (by simp)).newRhole (by simp)⟩
  obtain ⟨g2, g3, g4, rfl, rfl, rfl, hP⟩ := hcut
  obtain ⟨s2, A2, l2, k2, c0, c1, hr⟩ := hP.int 1 rfl
  have hlen := hr.len
  by_cases hq0 : q = 0
  · have hl0 : l2 = 0 := hlen.1.2 hq0
    subst hl0
    have HP := Lib.hid (And.intro hP hq0)
    clear hP hr hlen hq0
    go_wp2_with fail
    refine (dnewOf 0 (by decide) (by decide)).mono ?_
    rintro e w1 ⟨u, rfl, hu, hb⟩
    have hP3 := HP.out.1.next hb
    rw [show ((0 : Int) : Rat) = Rat.divInt p q by rw [HP.out.2]; simp] at hu
    clear hb c0 c1
    obtain ⟨sx, Ax, lx, cx, tx, Ax', lx', cx', rfl⟩ := hu.shape
    obtain ⟨m0, m1, m2, m3, d0, d1, d2, d3, f0, f1, f2, f3⟩ := hP3.rhole 2 rfl
    have HV := Lib.hid (And.intro hu hP3)
    clear hu hP3
    go_wp2
    have hF := HV.out.2.rstored 2 rfl HV.out.1
    rw [show (((w1.setCell ⟨g4, 0, none⟩ (.bool sx)).setCell ⟨g4, 1, none⟩ (.slice Ax lx cx)).setCell ⟨g4, 2, none⟩ (.bool tx)).setCell ⟨g4, 3, none⟩ (.slice Ax' lx' cx') = stFrac w1 g4 sx Ax lx cx tx Ax' lx' cx' from rfl]
    generalize stFrac w1 g4 sx Ax lx cx tx Ax' lx' cx' = W3 at *
    obtain ⟨z0, z1, z2, z3, z4, z5⟩ := hF
    exact bodyPost_ret (v := .agg #[.bool sx, .slice Ax lx cx, .bool tx, .slice Ax' lx' cx']) (by simp [results, Tryz.results53, go_sem, z0, z1, z2, z3]) rfl ⟨_, rfl, z4, z5.below⟩
  have hl0 : ((l2 : Int) == 0) = false := by
    rw [beq_eq_false_iff_ne]
    intro e
    exact hq0 (hlen.1.1 (by omega))
  have hGp : 0 < Nat.gcd p.natAbs q.natAbs := Nat.gcd_pos_of_pos_right _ (by omega)
  have hGk : G ≠ 0 ∧ G.natAbs < D.B ^ k := by
    have h1 : Nat.gcd p.natAbs q.natAbs ≤ q.natAbs := Nat.gcd_le_right _ (by omega)
    have h2 := H.out.2.2.2
    rw [hG, Int.natAbs_natCast]
    exact ⟨by omega, by omega⟩
  have g1 : G ∣ p := by rw [hG]; exact Int.ofNat_dvd_left.2 (Nat.gcd_dvd_left _ _)
  have g2' : G ∣ q := by rw [hG]; exact Int.ofNat_dvd_left.2 (Nat.gcd_dvd_right _ _)
  obtain ⟨pn, hpn⟩ : ∃ pn, pn = p.tdiv G := ⟨_, rfl⟩
  obtain ⟨qn, hqn⟩ : ∃ qn, qn = q.tdiv G := ⟨_, rfl⟩
  have hres : (qn < 0 → (Rat.divInt p q).num = -pn ∧ ((Rat.divInt p q).den : Int) = -qn) ∧ (¬ qn < 0 → (Rat.divInt p q).num = pn ∧ ((Rat.divInt p q).den : Int) = qn) := by
    rw [hpn, hqn, tdiv_of_dvd g1, tdiv_of_dvd g2', hG]
    have hs := F.div_sign hGp (z := q) (by rw [← hG]; exact g2')
    refine ⟨fun h => F.new_neg (hs.1.1 h), fun h => F.new_pos ?_⟩
    have h3 : ¬ q < 0 := fun e => h (hs.1.2 e)
    omega
  have HG := Lib.hid (And.intro hG (And.intro hGk (And.intro hpn (And.intro hqn hres))))
  have HP := Lib.hid hP
  clear hP hr hlen hq0 hGp hGk g1 g2' hpn hqn hres hG
  go_upto_region 3 with fail
  clear c0 c1 hl0
  have hP := HP.out
  clear HP
  go_upto_region 3 with fail
  go_cut [5] from 10 (fun s5 wx => ∃ g5 : Nat, s5 = .pointer (some ⟨g5, 0, none⟩) ∧ DPs w [(g2, .int p), (g3, .int q), (g4, .rhole), (g5, .int G)] wx)
  case first =>
    obtain ⟨s, A, l, c, c0, c1, hi⟩ := hP.int 0 rfl
    obtain ⟨t, A', l', c', c2, c3, hj⟩ := hP.int 1 rfl
    have HP := Lib.hid hP
    clear hP
    go_wp2_with fail
    refine (dgcd_any HG.out.1 hi hj H.out.2.2.1 H.out.2.2.2 hk).mono ?_
    rintro e w1 ⟨v, rfl, hv, hb⟩
    obtain ⟨sv, Av, lv, cv, rfl⟩ := hv.form
    have HR := Lib.hid (And.intro (HP.out.next hb) hv)
    clear hv hb
    go_wp2_with fail
    go_meet
    exact ⟨_, rfl, HR.out.1.boxInt HR.out.2 rfl⟩
  clear hP
  obtain ⟨g5, rfl, hP⟩ := hcut
  go_upto_region 4 with fail
  go_cut [6] from 10 (fun s6 wx => ∃ g6 : Nat, s6 = .pointer (some ⟨g6, 0, none⟩) ∧ DPs w [(g2, .int p), (g3, .int q), (g4, .rhole), (g5, .int G), (g6, .int pn)] wx)
  case first =>
    obtain ⟨s, A, l, c, c0, c1, hi⟩ := hP.int 0 rfl
    obtain ⟨t, A', l', c', c2, c3, hj⟩ := hP.int 3 rfl
    have HP := Lib.hid (And.intro hP (And.intro hi hj))
    clear hP hi hj
    go_wp2_with fail
    refine (dquo_any HP.out.2.1 HP.out.2.2 HG.out.2.1.1 H.out.2.2.1 HG.out.2.1.2 hk).mono ?_
    rintro e w1 ⟨u, v, rfl, hu, hv, hb⟩
    obtain ⟨su, Au, lu, cu, rfl⟩ := hu.form
    obtain ⟨sv, Av, lv, cv, rfl⟩ := hv.form
    rw [← HG.out.2.2.1] at hu
    have HR := Lib.hid (And.intro (HP.out.1.next hb) (And.intro hu hv))
    clear hu hv hb
    go_wp2_with fail
    go_meet
    exact ⟨_, rfl, ((HR.out.1.boxInt HR.out.2.1 rfl).next ((Below.refl _ _).alloc (Nat.le_refl _) _))⟩
  clear hP
  obtain ⟨g6, rfl, hP⟩ := hcut
  go_upto_region 5 with fail
  go_cut [8] from 10 (fun s8 wx => ∃ g8 : Nat, s8 = .pointer (some ⟨g8, 0, none⟩) ∧ DPs w [(g2, .int p), (g3, .int q), (g4, .rhole), (g5, .int G), (g6, .int pn), (g8, .int qn)] wx)
  case first =>
    obtain ⟨s, A, l, c, c0, c1, hi⟩ := hP.int 1 rfl
    obtain ⟨t, A', l', c', c2, c3, hj⟩ := hP.int 3 rfl
    have HP := Lib.hid (And.intro hP (And.intro hi hj))
    clear hP hi hj
    go_wp2_with fail
    refine (dquo_any HP.out.2.1 HP.out.2.2 HG.out.2.1.1 H.out.2.2.2 HG.out.2.1.2 hk).mono ?_
    rintro e w1 ⟨u, v, rfl, hu, hv, hb⟩
    obtain ⟨su, Au, lu, cu, rfl⟩ := hu.form
    obtain ⟨sv, Av, lv, cv, rfl⟩ := hv.form
    rw [← HG.out.2.2.2.1] at hu
    have HR := Lib.hid (And.intro (HP.out.1.next hb) (And.intro hu hv))
    clear hu hv hb
    go_wp2_with fail
    go_meet
    exact ⟨_, rfl, ((HR.out.1.boxInt HR.out.2.1 rfl).next ((Below.refl _ _).alloc (Nat.le_refl _) _))⟩
  clear hP
  obtain ⟨g8, rfl, hP⟩ := hcut
  obtain ⟨s2, A2, l2, k2, c0, c1, hr⟩ := hP.int 5 rfl
  have hneg := hr.neg
  clear hr
  by_cases hqn : qn < 0
  · have hN := HG.out.2.2.2.2.1 hqn
    rw [decide_eq_true hqn] at hneg
    have HN := Lib.hid hN
    clear hN hqn
    subst hneg
    go_upto_region 7 with fail
    go_cut [] from 10 (fun wx => DPs w [(g2, .int p), (g3, .int q), (g4, .rhole), (g5, .int G), (g6, .int (-pn)), (g8, .int (-qn))] wx)
    case first =>
      clear c0 c1
      refine RelV.region_rest 4 [0, 1, 2, 3] _ rfl rfl (R := [fun v w => DBig w v (pn), fun v w => DBig w v (-pn), fun v w => DBig w v (qn), fun v w => DBig w v (-qn)])
        (E := DRE w [(g2, .int p), (g3, .int q), (g4, .rhole), (g5, .int G), (g6, .int pn), (g8, .int qn)] wc.heap.size 1000 1001) (T := fun w w' => Below w.heap.size w w') (by kernel_rfl) (by kernel_rfl) (by kernel_rfl) (DRE.start hP 1000 1001) ?_ ?_ ?_
      · intro D vals i v w1 w2 hi hE hT hv
        match i, hi with
        | 0, _ | 1, _ | 2, _ | 3, _ => exact DBig.below hv hT (Nat.le_refl _)
        | i + 4, hi => exact absurd hi (by omega)
      · refine RelV.Steps.cons (L := []) rfl (by kernel_rfl) ?_ ?_
        · intro vals w' D hE hF hR K hK
          obtain ⟨s, A, l, c, c0, c1, hi⟩ := hE.1.int 4 rfl
          simp only [Rel.putL, Rel.dst, z1, z2, z3, z4, Act.put, z5, z6, z7] at hK ⊢
          go_simp
          exact hK _ _ hi (Below.refl _ _) (hE.same (by decide) (by decide))
        refine RelV.Steps.cons (L := [0]) rfl (by kernel_rfl) ?_ ?_
        · intro vals w' D hE hF hR K hK
          have r0 := hR.1
          simp only [Rel.putL, Rel.dst, z1, z2, z3, z4, Act.put, z5, z6, z7] at hK ⊢
          go_simp
          go_at_call 100
          refine (dneg_any r0).mono ?_
          rintro e w2 ⟨v, rfl, hv, hb⟩
          exact hK _ _ hv hb (hE.step hb (by decide) (by decide))
        refine RelV.Steps.cons (L := []) rfl (by kernel_rfl) ?_ ?_
        · intro vals w' D hE hF hR K hK
          obtain ⟨s, A, l, c, c0, c1, hi⟩ := hE.1.int 5 rfl
          simp only [Rel.putL, Rel.dst, z1, z2, z3, z4, Act.put, z5, z6, z7] at hK ⊢
          go_simp
          exact hK _ _ hi (Below.refl _ _) (hE.same (by decide) (by decide))
        refine RelV.Steps.cons (L := [2]) rfl (by kernel_rfl) ?_ ?_
        · intro vals w' D hE hF hR K hK
          have r2 := hR.1
          simp only [Rel.putL, Rel.dst, z1, z2, z3, z4, Act.put, z5, z6, z7] at hK ⊢
          go_simp
          go_at_call 100
          refine (dneg_any r2).mono ?_
          rintro e w2 ⟨v, rfl, hv, hb⟩
          exact hK _ _ hv hb (hE.step hb (by decide) (by decide))
        exact RelV.Steps.done
      · intro vals w1 D hD hE hR
        obtain ⟨r0, r1, r2, r3, _⟩ := hR
        obtain ⟨p1, A1, l1, c1, e1⟩ := r1.form
        rw [e1] at r1
        obtain ⟨p3, A3, l3, c3, e3⟩ := r3.form
        rw [e3] at r3
        have hL := (hE.1.left 4 rfl).left 5 rfl
        obtain ⟨m0, m1, d0, d1, f0, f1⟩ := hL.hole 4 rfl
        have hP2 := hL.storeInt 4 rfl r1
        obtain ⟨v0, v1, b0, b1, k0, k1⟩ := hP2.hole 5 rfl
        have HQ := Lib.hid (hP2.storeInt 5 rfl (hL.keepInt 4 rfl p1 A1 l1 c1 r3))
        unfold stBig at b0 b1 k0 k1
        simp only [Rel.putL, Rel.dst, z1, z2, z3, z4, Act.put, z5, z6, z7, e1, e3]
        clear hE hD hL hP2 r0 r1 r2 r3
        go_wp2_with fail
        go_meet
        exact HQ.out
    clear hP c0 c1
    have hP := hcut
    clear hcut
    obtain ⟨sa, Aa, la, ca, a0, a1, hn⟩ := hP.int 4 rfl
    obtain ⟨sb, Ab, lb, cb, b0, b1, hd⟩ := hP.int 5 rfl
    obtain ⟨m0, m1, m2, m3, d0, d1, d2, d3, f0, f1, f2, f3⟩ := hP.rhole 2 rfl
    have hu : IsFrac wc (.agg #[.bool sa, .slice Aa la ca, .bool sb, .slice Ab lb cb]) (Rat.divInt p q) := IsFrac.mk (by rw [HN.out.1]; exact hn) (by rw [HN.out.2]; exact hd)
    have HV := Lib.hid (And.intro hu hP)
    clear hu hn hd
    go_wp2
    have hF := HV.out.2.rstored 2 rfl HV.out.1
    rw [show (((wc.setCell ⟨g4, 0, none⟩ (.bool sa)).setCell ⟨g4, 1, none⟩ (.slice Aa la ca)).setCell ⟨g4, 2, none⟩ (.bool sb)).setCell ⟨g4, 3, none⟩ (.slice Ab lb cb) = stFrac wc g4 sa Aa la ca sb Ab lb cb from rfl]
    clear hP
    generalize stFrac wc g4 sa Aa la ca sb Ab lb cb = W3 at *
    obtain ⟨z0, z1, z2, z3, z4, z5⟩ := hF
    exact bodyPost_ret (v := .agg #[.bool sa, .slice Aa la ca, .bool sb, .slice Ab lb cb]) (by simp [results, Tryz.results53, go_sem, z0, z1, z2, z3]) rfl ⟨_, rfl, z4, z5.below⟩
  · have hN := HG.out.2.2.2.2.2 hqn
    rw [decide_eq_false hqn] at hneg
    have HN := Lib.hid hN
    clear hN hqn
    subst hneg
    go_upto_region 8 with fail
    clear c0 c1
    obtain ⟨sa, Aa, la, ca, a0, a1, hn⟩ := hP.int 4 rfl
    obtain ⟨sb, Ab, lb, cb, b0, b1, hd⟩ := hP.int 5 rfl
    obtain ⟨m0, m1, m2, m3, d0, d1, d2, d3, f0, f1, f2, f3⟩ := hP.rhole 2 rfl
    have hu : IsFrac wc (.agg #[.bool sa, .slice Aa la ca, .bool sb, .slice Ab lb cb]) (Rat.divInt p q) := IsFrac.mk (by rw [HN.out.1]; exact hn) (by rw [HN.out.2]; exact hd)
    have HV := Lib.hid (And.intro hu hP)
    clear hu hn hd
    go_wp2
    have hF := HV.out.2.rstored 2 rfl HV.out.1
    rw [show (((wc.setCell ⟨g4, 0, none⟩ (.bool sa)).setCell ⟨g4, 1, none⟩ (.slice Aa la ca)).setCell ⟨g4, 2, none⟩ (.bool sb)).setCell ⟨g4, 3, none⟩ (.slice Ab lb cb) = stFrac wc g4 sa Aa la ca sb Ab lb cb from rfl]
    clear hP
    generalize stFrac wc g4 sa Aa la ca sb Ab lb cb = W3 at *
    obtain ⟨z0, z1, z2, z3, z4, z5⟩ := hF
    exact bodyPost_ret (v := .agg #[.bool sa, .slice Aa la ca, .bool sb, .slice Ab lb cb]) (by simp [results, Tryz.results53, go_sem, z0, z1, z2, z3]) rfl ⟨_, rfl, z4, z5.below⟩
theorem mul_D {p q : Int} {k : Nat} (hp : p.natAbs < D.B ^ k) (hq : q.natAbs < D.B ^ k) : (p * q).natAbs < D.B ^ (2 * k) := by
  rw [Int.natAbs_mul, show 2 * k = k + k by omega, Nat.pow_add]; exact Nat.mul_lt_mul'' hp hq
theorem up_D {p : Int} {k : Nat} (hp : p.natAbs < D.B ^ k) : p.natAbs < D.B ^ (k + 1) := Nat.lt_of_lt_of_le hp (D.pow_mono (by omega))
theorem sum_D {p q : Int} {k : Nat} (hp : p.natAbs < D.B ^ k) (hq : q.natAbs < D.B ^ k) : (p + q).natAbs < D.B ^ (k + 1) ∧ (p - q).natAbs < D.B ^ (k + 1) := by
  have h : 2 * D.B ^ k ≤ D.B ^ (k + 1) := by
    rw [Nat.pow_succ, Nat.mul_comm]
    exact Nat.mul_le_mul_left _ (by have := D.B_one; omega)
  exact ⟨by omega, by omega⟩
theorem ref_add_divInt (x y : Rat) : x + y = Rat.divInt (x.num * (y.den : Int) + y.num * (x.den : Int)) ((x.den : Int) * (y.den : Int)) := by
  rw [Rat.add_def, Rat.normalize_eq_mkRat]; rfl
theorem ref_sub_divInt (x y : Rat) : x - y = Rat.divInt (x.num * (y.den : Int) - y.num * (x.den : Int)) ((x.den : Int) * (y.den : Int)) := by
  rw [Rat.sub_def, Rat.normalize_eq_mkRat]; rfl
theorem ref_mul_divInt (x y : Rat) : x * y = Rat.divInt (x.num * y.num) ((x.den : Int) * (y.den : Int)) := by
  rw [Rat.mul_def, Rat.normalize_eq_mkRat]; rfl
theorem ref_div_divInt (x y : Rat) : x / y = Rat.divInt (x.num * (y.den : Int)) ((x.den : Int) * y.num) := by
  conv => lhs; rw [← Rat.num_divInt_den x, ← Rat.num_divInt_den y]
  rw [Rat.div_def, Rat.inv_divInt, Rat.divInt_mul_divInt]
set_option linter.unusedSimpArgs false in
set_option maxHeartbeats 4000000 in
set_option maxRecDepth 100000 in
theorem dadd_any {w : World} {a b : Value} {x y : Rat} {k : Nat} (ha : IsFrac w a x) (hb : IsFrac w b y) (hx : F.Lt (D.B ^ k) x) (hy : F.Lt (D.B ^ k) y) (hk : k ≤ 9000) :
    Calls Tryz.prog 46 #[a, b] w fun e w' => ∃ v, e = .returned v ∧ IsFrac w' v (x + y) ∧ Below w.heap.size w w' := by
  obtain ⟨s, A, l, c, t, A', l', c', rfl⟩ := ha.shape
  obtain ⟨s1, A1, l1, c1, t1, A1', l1', c1', rfl⟩ := hb.shape
  have H := Lib.hid (And.intro ha (And.intro hb (And.intro hx hy)))
  clear ha hb hx hy
  go_enter Tryz.func46, Tryz.ntmps46
  go_upto_region 0 with fail
  go_cut [2, 3, 4] from 5 (fun s2 s3 s4 wx => ∃ g2 g3 g4 : Nat, s2 = .pointer (some ⟨g2, 0, none⟩) ∧ s3 = .pointer (some ⟨g3, 0, none⟩) ∧ s4 = .pointer (some ⟨g4, 0, none⟩) ∧ DPs w [(g2, .rat x), (g3, .rat y), (g4, .rhole)] wx)
  case first =>
    go_wp2_with fail
    go_meet
    exact ⟨_, _, _, rfl, rfl, rfl, (((DPs.start w).boxRat H.out.1 rfl).boxRat (H.out.2.1.below ((Below.refl _ _).alloc (Nat.le_refl _) _)) (by simp)).newRhole (by simp)⟩
  obtain ⟨g2, g3, g4, rfl, rfl, rfl, hP⟩ := hcut
  go_upto_region 1 with fail
  refine RelV.region_rest 17 [0, 1, 2, 3, 4, 5, 6, 7, 8, 9, 10, 11, 12, 13, 14, 15, 16] _ rfl rfl (R := [fun v _ => v = .pointer (some ⟨g2, 0, none⟩), fun v w => DBig w v (x).num, fun v _ => v = .pointer (some ⟨g3, 2, none⟩), fun v w => DBig w v (y.den : Int), fun v w => DBig w v (x.num * (y.den : Int)), fun v _ => v = .pointer (some ⟨g3, 0, none⟩), fun v w => DBig w v (y).num, fun v _ => v = .pointer (some ⟨g2, 2, none⟩), fun v w => DBig w v (x.den : Int), fun v w => DBig w v (y.num * (x.den : Int)), fun v w => DBig w v (x.num * (y.den : Int) + y.num * (x.den : Int)), fun v _ => v = .pointer (some ⟨g2, 2, none⟩), fun v w => DBig w v (x.den : Int), fun v _ => v = .pointer (some ⟨g3, 2, none⟩), fun v w => DBig w v (y.den : Int), fun v w => DBig w v ((x.den : Int) * (y.den : Int)), fun v w => IsFrac w v (x + y)])
    (E := DRE w [(g2, .rat x), (g3, .rat y), (g4, .rhole)] wc.heap.size 1000 1001) (T := fun w w' => Below w.heap.size w w') (by kernel_rfl) (by kernel_rfl) (by kernel_rfl) (DRE.start hP 1000 1001) ?_ ?_ ?_
  · intro D vals i v w1 w2 hi hE hT hv
    match i, hi with
    | 16, _ => exact IsFrac.below hv hT
    | 1, _ | 3, _ | 4, _ | 6, _ | 8, _ | 9, _ | 10, _ | 12, _ | 14, _ | 15, _ => exact DBig.below hv hT (Nat.le_refl _)
    | 0, _ | 2, _ | 5, _ | 7, _ | 11, _ | 13, _ => exact hv
    | i + 17, hi => exact absurd hi (by omega)
  · refine RelV.Steps.cons (L := []) rfl (by kernel_rfl) ?_ ?_
    · intro vals w' D hE hF hR K hK
      simp only [Rel.putL, Rel.dst, z1, z2, z3, z4, Act.put, z5, z6, z7] at hK ⊢
      go_simp
      exact hK _ _ rfl (Below.refl _ _) (hE.same (by decide) (by decide))
    refine RelV.Steps.cons (L := [0]) rfl (by kernel_rfl) ?_ ?_
    · intro vals w' D hE hF hR K hK
      have d0 : vals 0 = .pointer (some ⟨g2, 0, none⟩) := hR.1
      obtain ⟨s, A, l, c, t, A', l', c', c0, c1, c2, c3, hi⟩ := hE.1.rat 0 rfl
      simp only [Rel.putL, Rel.dst, z1, z2, z3, z4, Act.put, z5, z6, z7, d0] at hK ⊢
      go_simp
      exact hK _ _ hi.parts.1 (Below.refl _ _) (hE.same (by decide) (by decide))
    refine RelV.Steps.cons (L := []) rfl (by kernel_rfl) ?_ ?_
    · intro vals w' D hE hF hR K hK
      simp only [Rel.putL, Rel.dst, z1, z2, z3, z4, Act.put, z5, z6, z7] at hK ⊢
      go_simp
      exact hK _ _ rfl (Below.refl _ _) (hE.same (by decide) (by decide))
    refine RelV.Steps.cons (L := [2]) rfl (by kernel_rfl) ?_ ?_
    · intro vals w' D hE hF hR K hK
      have d2 : vals 2 = .pointer (some ⟨g3, 2, none⟩) := hR.1
      obtain ⟨s, A, l, c, t, A', l', c', c0, c1, c2, c3, hi⟩ := hE.1.rat 1 rfl
      simp only [Rel.putL, Rel.dst, z1, z2, z3, z4, Act.put, z5, z6, z7, d2] at hK ⊢
      go_simp
      exact hK _ _ (hi.parts.2) (Below.refl _ _) (hE.same (by decide) (by decide))
    refine RelV.Steps.cons (L := [1, 3]) rfl (by kernel_rfl) ?_ ?_
    · intro vals w' D hE hF hR K hK
      have r1 := hR.1
      have r3 := hR.2.1
      simp only [Rel.putL, Rel.dst, z1, z2, z3, z4, Act.put, z5, z6, z7] at hK ⊢
      go_simp
      go_at_call 96
      refine (rmul_any r1 r3 H.out.2.2.1.1 (by rw [Int.natAbs_natCast]; exact H.out.2.2.2.2) (by omega)).mono ?_
      rintro e w2 ⟨v, rfl, hv, hb⟩
      have hv := hv.big
      exact hK _ _ hv hb (hE.step hb (by decide) (by decide))
    refine RelV.Steps.cons (L := []) rfl (by kernel_rfl) ?_ ?_
    · intro vals w' D hE hF hR K hK
      simp only [Rel.putL, Rel.dst, z1, z2, z3, z4, Act.put, z5, z6, z7] at hK ⊢
      go_simp
      exact hK _ _ rfl (Below.refl _ _) (hE.same (by decide) (by decide))
    refine RelV.Steps.cons (L := [5]) rfl (by kernel_rfl) ?_ ?_
    · intro vals w' D hE hF hR K hK
      have d5 : vals 5 = .pointer (some ⟨g3, 0, none⟩) := hR.1
      obtain ⟨s, A, l, c, t, A', l', c', c0, c1, c2, c3, hi⟩ := hE.1.rat 1 rfl
      simp only [Rel.putL, Rel.dst, z1, z2, z3, z4, Act.put, z5, z6, z7, d5] at hK ⊢
      go_simp
      exact hK _ _ hi.parts.1 (Below.refl _ _) (hE.same (by decide) (by decide))
    refine RelV.Steps.cons (L := []) rfl (by kernel_rfl) ?_ ?_
    · intro vals w' D hE hF hR K hK
      simp only [Rel.putL, Rel.dst, z1, z2, z3, z4, Act.put, z5, z6, z7] at hK ⊢
      go_simp
      exact hK _ _ rfl (Below.refl _ _) (hE.same (by decide) (by decide))
    refine RelV.Steps.cons (L := [7]) rfl (by kernel_rfl) ?_ ?_
    · intro vals w' D hE hF hR K hK
      have d7 : vals 7 = .pointer (some ⟨g2, 2, none⟩) := hR.1
      obtain ⟨s, A, l, c, t, A', l', c', c0, c1, c2, c3, hi⟩ := hE.1.rat 0 rfl
      simp only [Rel.putL, Rel.dst, z1, z2, z3, z4, Act.put, z5, z6, z7, d7] at hK ⊢
      go_simp
      exact hK _ _ (hi.parts.2) (Below.refl _ _) (hE.same (by decide) (by decide))
    refine RelV.Steps.cons (L := [6, 8]) rfl (by kernel_rfl) ?_ ?_
    · intro vals w' D hE hF hR K hK
      have r6 := hR.1
      have r8 := hR.2.1
      simp only [Rel.putL, Rel.dst, z1, z2, z3, z4, Act.put, z5, z6, z7] at hK ⊢
      go_simp
      go_at_call 96
      refine (rmul_any r6 r8 H.out.2.2.2.1 (by rw [Int.natAbs_natCast]; exact H.out.2.2.1.2) (by omega)).mono ?_
      rintro e w2 ⟨v, rfl, hv, hb⟩
      have hv := hv.big
      exact hK _ _ hv hb (hE.step hb (by decide) (by decide))
    refine RelV.Steps.cons (L := [4, 9]) rfl (by kernel_rfl) ?_ ?_
    · intro vals w' D hE hF hR K hK
      have r4 := hR.1
      have r9 := hR.2.1
      simp only [Rel.putL, Rel.dst, z1, z2, z3, z4, Act.put, z5, z6, z7] at hK ⊢
      go_simp
      go_at_call 97
      refine (radd_any (k := 2 * k) r4 r9 (mul_D H.out.2.2.1.1 (by rw [Int.natAbs_natCast]; exact H.out.2.2.2.2)) (mul_D H.out.2.2.2.1 (by rw [Int.natAbs_natCast]; exact H.out.2.2.1.2)) (by omega)).mono ?_
      rintro e w2 ⟨v, rfl, hv, hb⟩
      exact hK _ _ hv hb (hE.step hb (by decide) (by decide))
    refine RelV.Steps.cons (L := []) rfl (by kernel_rfl) ?_ ?_
    · intro vals w' D hE hF hR K hK
      simp only [Rel.putL, Rel.dst, z1, z2, z3, z4, Act.put, z5, z6, z7] at hK ⊢
      go_simp
      exact hK _ _ rfl (Below.refl _ _) (hE.same (by decide) (by decide))
    refine RelV.Steps.cons (L := [11]) rfl (by kernel_rfl) ?_ ?_
    · intro vals w' D hE hF hR K hK
      have d11 : vals 11 = .pointer (some ⟨g2, 2, none⟩) := hR.1
      obtain ⟨s, A, l, c, t, A', l', c', c0, c1, c2, c3, hi⟩ := hE.1.rat 0 rfl
      simp only [Rel.putL, Rel.dst, z1, z2, z3, z4, Act.put, z5, z6, z7, d11] at hK ⊢
      go_simp
      exact hK _ _ (hi.parts.2) (Below.refl _ _) (hE.same (by decide) (by decide))
    refine RelV.Steps.cons (L := []) rfl (by kernel_rfl) ?_ ?_
    · intro vals w' D hE hF hR K hK
      simp only [Rel.putL, Rel.dst, z1, z2, z3, z4, Act.put, z5, z6, z7] at hK ⊢
      go_simp
      exact hK _ _ rfl (Below.refl _ _) (hE.same (by decide) (by decide))
    refine RelV.Steps.cons (L := [13]) rfl (by kernel_rfl) ?_ ?_
    · intro vals w' D hE hF hR K hK
      have d13 : vals 13 = .pointer (some ⟨g3, 2, none⟩) := hR.1
      obtain ⟨s, A, l, c, t, A', l', c', c0, c1, c2, c3, hi⟩ := hE.1.rat 1 rfl
      simp only [Rel.putL, Rel.dst, z1, z2, z3, z4, Act.put, z5, z6, z7, d13] at hK ⊢
      go_simp
      exact hK _ _ (hi.parts.2) (Below.refl _ _) (hE.same (by decide) (by decide))
    refine RelV.Steps.cons (L := [12, 14]) rfl (by kernel_rfl) ?_ ?_
    · intro vals w' D hE hF hR K hK
      have r12 := hR.1
      have r14 := hR.2.1
      simp only [Rel.putL, Rel.dst, z1, z2, z3, z4, Act.put, z5, z6, z7] at hK ⊢
      go_simp
      go_at_call 96
      refine (rmul_any r12 r14 (by rw [Int.natAbs_natCast]; exact H.out.2.2.1.2) (by rw [Int.natAbs_natCast]; exact H.out.2.2.2.2) (by omega)).mono ?_
      rintro e w2 ⟨v, rfl, hv, hb⟩
      have hv := hv.big
      exact hK _ _ hv hb (hE.step hb (by decide) (by decide))
    refine RelV.Steps.cons (L := [10, 15]) rfl (by kernel_rfl) ?_ ?_
    · intro vals w' D hE hF hR K hK
      have r10 := hR.1
      have r15 := hR.2.1
      simp only [Rel.putL, Rel.dst, z1, z2, z3, z4, Act.put, z5, z6, z7] at hK ⊢
      go_simp
      go_at_call 53
      refine (dnew_any (k := 2 * k + 1) r10 r15 (sum_D (mul_D H.out.2.2.1.1 (by rw [Int.natAbs_natCast]; exact H.out.2.2.2.2)) (mul_D H.out.2.2.2.1 (by rw [Int.natAbs_natCast]; exact H.out.2.2.1.2))).1 (up_D (mul_D (by rw [Int.natAbs_natCast]; exact H.out.2.2.1.2) (by rw [Int.natAbs_natCast]; exact H.out.2.2.2.2))) (by omega)).mono ?_
      rintro e w2 ⟨v, rfl, hv, hb⟩
      rw [← ref_add_divInt] at hv
      exact hK _ _ hv hb (hE.step hb (by decide) (by decide))
    exact RelV.Steps.done
  · intro vals w1 D hD hE hR
    obtain ⟨r0, r1, r2, r3, r4, r5, r6, r7, r8, r9, r10, r11, r12, r13, r14, r15, r16, _⟩ := hR
    obtain ⟨sx, Ax, lx, cx, tx, Ax', lx', cx', ex⟩ := r16.shape
    rw [ex] at r16
    obtain ⟨m0, m1, m2, m3, d0, d1, d2, d3, f0, f1, f2, f3⟩ := hE.1.rhole 2 rfl
    have HV := Lib.hid (And.intro r16 hE.1)
    simp only [Rel.putL, Rel.dst, z1, z2, z3, z4, Act.put, z5, z6, z7, ex]
    clear hE hD r0 r1 r2 r3 r4 r5 r6 r7 r8 r9 r10 r11 r12 r13 r14 r15 r16
    go_wp2
    have hF := HV.out.2.rstored 2 rfl HV.out.1
    rw [show (((w1.setCell ⟨g4, 0, none⟩ (.bool sx)).setCell ⟨g4, 1, none⟩ (.slice Ax lx cx)).setCell ⟨g4, 2, none⟩ (.bool tx)).setCell ⟨g4, 3, none⟩ (.slice Ax' lx' cx') = stFrac w1 g4 sx Ax lx cx tx Ax' lx' cx' from rfl]
    generalize stFrac w1 g4 sx Ax lx cx tx Ax' lx' cx' = W3 at *
    obtain ⟨z0, z1, z2, z3, z4, z5⟩ := hF
    exact bodyPost_ret (v := .agg #[.bool sx, .slice Ax lx cx, .bool tx, .slice Ax' lx' cx']) (by simp [results, Tryz.results46, go_sem, z0, z1, z2, z3]) rfl ⟨_, rfl, z4, z5.below⟩
set_option linter.unusedSimpArgs false in
set_option maxHeartbeats 4000000 in
set_option maxRecDepth 100000 in
theorem dmul_any {w : World} {a b : Value} {x y : Rat} {k : Nat} (ha : IsFrac w a x) (hb : IsFrac w b y) (hx : F.Lt (D.B ^ k) x) (hy : F.Lt (D.B ^ k) y) (hk : k ≤ 9000) :
    Calls Tryz.prog 49 #[a, b] w fun e w' => ∃ v, e = .returned v ∧ IsFrac w' v (x * y) ∧ Below w.heap.size w w' := by
  obtain ⟨s, A, l, c, t, A', l', c', rfl⟩ := ha.shape
  obtain ⟨s1, A1, l1, c1, t1, A1', l1', c1', rfl⟩ := hb.shape
  have H := Lib.hid (And.intro ha (And.intro hb (And.intro hx hy)))
  clear ha hb hx hy
  go_enter Tryz.func49, Tryz.ntmps49
  go_upto_region 0 with fail
  go_cut [2, 3, 4] from 5 (fun s2 s3 s4 wx => ∃ g2 g3 g4 : Nat, s2 = .pointer (some ⟨g2, 0, none⟩) ∧ s3 = .pointer (some ⟨g3, 0, none⟩) ∧ s4 = .pointer (some ⟨g4, 0, none⟩) ∧ DPs w [(g2, .rat x), (g3, .rat y), (g4, .rhole)] wx)
  case first =>
    go_wp2_with fail
    go_meet
    exact ⟨_, _, _, rfl, rfl, rfl, (((DPs.start w).boxRat H.out.1 rfl).boxRat (H.out.2.1.below ((Below.refl _ _).alloc (Nat.le_refl _) _)) (by simp)).newRhole (by simp)⟩
  obtain ⟨g2, g3, g4, rfl, rfl, rfl, hP⟩ := hcut
  go_upto_region 1 with fail
  refine RelV.region_rest 11 [0, 1, 2, 3, 4, 5, 6, 7, 8, 9, 10] _ rfl rfl (R := [fun v _ => v = .pointer (some ⟨g2, 0, none⟩), fun v w => DBig w v (x).num, fun v _ => v = .pointer (some ⟨g3, 0, none⟩), fun v w => DBig w v (y).num, fun v w => DBig w v (x.num * y.num), fun v _ => v = .pointer (some ⟨g2, 2, none⟩), fun v w => DBig w v (x.den : Int), fun v _ => v = .pointer (some ⟨g3, 2, none⟩), fun v w => DBig w v (y.den : Int), fun v w => DBig w v ((x.den : Int) * (y.den : Int)), fun v w => IsFrac w v (x * y)])
    (E := DRE w [(g2, .rat x), (g3, .rat y), (g4, .rhole)] wc.heap.size 1000 1001) (T := fun w w' => Below w.heap.size w w') (by kernel_rfl) (by kernel_rfl) (by kernel_rfl) (DRE.start hP 1000 1001) ?_ ?_ ?_
  · intro D vals i v w1 w2 hi hE hT hv
    match i, hi with
    | 10, _ => exact IsFrac.below hv hT
    | 1, _ | 3, _ | 4, _ | 6, _ | 8, _ | 9, _ => exact DBig.below hv hT (Nat.le_refl _)
    | 0, _ | 2, _ | 5, _ | 7, _ => exact hv
    | i + 11, hi => exact absurd hi (by omega)
  · refine RelV.Steps.cons (L := []) rfl (by kernel_rfl) ?_ ?_
    · intro vals w' D hE hF hR K hK
      simp only [Rel.putL, Rel.dst, z1, z2, z3, z4, Act.put, z5, z6, z7] at hK ⊢
      go_simp
      exact hK _ _ rfl (Below.refl _ _) (hE.same (by decide) (by decide))
    refine RelV.Steps.cons (L := [0]) rfl (by kernel_rfl) ?_ ?_
    · intro vals w' D hE hF hR K hK
      have d0 : vals 0 = .pointer (some ⟨g2, 0, none⟩) := hR.1
      obtain ⟨s, A, l, c, t, A', l', c', c0, c1, c2, c3, hi⟩ := hE.1.rat 0 rfl
      simp only [Rel.putL, Rel.dst, z1, z2, z3, z4, Act.put, z5, z6, z7, d0] at hK ⊢
      go_simp
      exact hK _ _ hi.parts.1 (Below.refl _ _) (hE.same (by decide) (by decide))
    refine RelV.Steps.cons (L := []) rfl (by kernel_rfl) ?_ ?_
    · intro vals w' D hE hF hR K hK
      simp only [Rel.putL, Rel.dst, z1, z2, z3, z4, Act.put, z5, z6, z7] at hK ⊢
      go_simp
      exact hK _ _ rfl (Below.refl _ _) (hE.same (by decide) (by decide))
    refine RelV.Steps.cons (L := [2]) rfl (by kernel_rfl) ?_ ?_
    · intro vals w' D hE hF hR K hK
      have d2 : vals 2 = .pointer (some ⟨g3, 0, none⟩) := hR.1
      obtain ⟨s, A, l, c, t, A', l', c', c0, c1, c2, c3, hi⟩ := hE.1.rat 1 rfl
      simp only [Rel.putL, Rel.dst, z1, z2, z3, z4, Act.put, z5, z6, z7, d2] at hK ⊢
      go_simp
      exact hK _ _ hi.parts.1 (Below.refl _ _) (hE.same (by decide) (by decide))
    refine RelV.Steps.cons (L := [1, 3]) rfl (by kernel_rfl) ?_ ?_
    · intro vals w' D hE hF hR K hK
      have r1 := hR.1
      have r3 := hR.2.1
      simp only [Rel.putL, Rel.dst, z1, z2, z3, z4, Act.put, z5, z6, z7] at hK ⊢
      go_simp
      go_at_call 96
      refine (rmul_any r1 r3 H.out.2.2.1.1 H.out.2.2.2.1 (by omega)).mono ?_
      rintro e w2 ⟨v, rfl, hv, hb⟩
      have hv := hv.big
      exact hK _ _ hv hb (hE.step hb (by decide) (by decide))
    refine RelV.Steps.cons (L := []) rfl (by kernel_rfl) ?_ ?_
    · intro vals w' D hE hF hR K hK
      simp only [Rel.putL, Rel.dst, z1, z2, z3, z4, Act.put, z5, z6, z7] at hK ⊢
      go_simp
      exact hK _ _ rfl (Below.refl _ _) (hE.same (by decide) (by decide))
    refine RelV.Steps.cons (L := [5]) rfl (by kernel_rfl) ?_ ?_
    · intro vals w' D hE hF hR K hK
      have d5 : vals 5 = .pointer (some ⟨g2, 2, none⟩) := hR.1
      obtain ⟨s, A, l, c, t, A', l', c', c0, c1, c2, c3, hi⟩ := hE.1.rat 0 rfl
      simp only [Rel.putL, Rel.dst, z1, z2, z3, z4, Act.put, z5, z6, z7, d5] at hK ⊢
      go_simp
      exact hK _ _ (hi.parts.2) (Below.refl _ _) (hE.same (by decide) (by decide))
    refine RelV.Steps.cons (L := []) rfl (by kernel_rfl) ?_ ?_
    · intro vals w' D hE hF hR K hK
      simp only [Rel.putL, Rel.dst, z1, z2, z3, z4, Act.put, z5, z6, z7] at hK ⊢
      go_simp
      exact hK _ _ rfl (Below.refl _ _) (hE.same (by decide) (by decide))
    refine RelV.Steps.cons (L := [7]) rfl (by kernel_rfl) ?_ ?_
    · intro vals w' D hE hF hR K hK
      have d7 : vals 7 = .pointer (some ⟨g3, 2, none⟩) := hR.1
      obtain ⟨s, A, l, c, t, A', l', c', c0, c1, c2, c3, hi⟩ := hE.1.rat 1 rfl
      simp only [Rel.putL, Rel.dst, z1, z2, z3, z4, Act.put, z5, z6, z7, d7] at hK ⊢
      go_simp
      exact hK _ _ (hi.parts.2) (Below.refl _ _) (hE.same (by decide) (by decide))
    refine RelV.Steps.cons (L := [6, 8]) rfl (by kernel_rfl) ?_ ?_
    · intro vals w' D hE hF hR K hK
      have r6 := hR.1
      have r8 := hR.2.1
      simp only [Rel.putL, Rel.dst, z1, z2, z3, z4, Act.put, z5, z6, z7] at hK ⊢
      go_simp
      go_at_call 96
      refine (rmul_any r6 r8 (by rw [Int.natAbs_natCast]; exact H.out.2.2.1.2) (by rw [Int.natAbs_natCast]; exact H.out.2.2.2.2) (by omega)).mono ?_
      rintro e w2 ⟨v, rfl, hv, hb⟩
      have hv := hv.big
      exact hK _ _ hv hb (hE.step hb (by decide) (by decide))
    refine RelV.Steps.cons (L := [4, 9]) rfl (by kernel_rfl) ?_ ?_
    · intro vals w' D hE hF hR K hK
      have r4 := hR.1
      have r9 := hR.2.1
      simp only [Rel.putL, Rel.dst, z1, z2, z3, z4, Act.put, z5, z6, z7] at hK ⊢
      go_simp
      go_at_call 53
      refine (dnew_any (k := 2 * k) r4 r9 (mul_D H.out.2.2.1.1 H.out.2.2.2.1) (mul_D (by rw [Int.natAbs_natCast]; exact H.out.2.2.1.2) (by rw [Int.natAbs_natCast]; exact H.out.2.2.2.2)) (by omega)).mono ?_
      rintro e w2 ⟨v, rfl, hv, hb⟩
      rw [← ref_mul_divInt] at hv
      exact hK _ _ hv hb (hE.step hb (by decide) (by decide))
    exact RelV.Steps.done
  · intro vals w1 D hD hE hR
    obtain ⟨r0, r1, r2, r3, r4, r5, r6, r7, r8, r9, r10, _⟩ := hR
    obtain ⟨sx, Ax, lx, cx, tx, Ax', lx', cx', ex⟩ := r10.shape
    rw [ex] at r10
    obtain ⟨m0, m1, m2, m3, d0, d1, d2, d3, f0, f1, f2, f3⟩ := hE.1.rhole 2 rfl
    have HV := Lib.hid (And.intro r10 hE.1)
    simp only [Rel.putL, Rel.dst, z1, z2, z3, z4, Act.put, z5, z6, z7, ex]
    clear hE hD r0 r1 r2 r3 r4 r5 r6 r7 r8 r9 r10
    go_wp2
    have hF := HV.out.2.rstored 2 rfl HV.out.1
    rw [show (((w1.setCell ⟨g4, 0, none⟩ (.bool sx)).setCell ⟨g4, 1, none⟩ (.slice Ax lx cx)).setCell ⟨g4, 2, none⟩ (.bool tx)).setCell ⟨g4, 3, none⟩ (.slice Ax' lx' cx') = stFrac w1 g4 sx Ax lx cx tx Ax' lx' cx' from rfl]
    generalize stFrac w1 g4 sx Ax lx cx tx Ax' lx' cx' = W3 at *
    obtain ⟨z0, z1, z2, z3, z4, z5⟩ := hF
    exact bodyPost_ret (v := .agg #[.bool sx, .slice Ax lx cx, .bool tx, .slice Ax' lx' cx']) (by simp [results, Tryz.results49, go_sem, z0, z1, z2, z3]) rfl ⟨_, rfl, z4, z5.below⟩
end Go.Proofs.YtigplffpnbdkeaaGreatDoor
