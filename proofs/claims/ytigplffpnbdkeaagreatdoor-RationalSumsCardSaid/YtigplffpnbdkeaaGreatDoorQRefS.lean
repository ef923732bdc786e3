/- The reference's Sum and Dot. -/
import Derived.Test.YtigplffpnbdkeaaGreatDoorQSopB
namespace Go.Proofs.YtigplffpnbdkeaaGreatDoor
open Go Go.RowKit

theorem DPs.rleft {w0 w : World} {ps : List (Nat × DP)} (h : DPs w0 ps w) (i : Nat) {g : Nat} {x : Rat} (hp : ps[i]? = some (g, .rat x)) : DPs w0 (ps.set i (g, .rhole)) w := by
  obtain ⟨s, A, l, c, t, A', l', c', h1, _⟩ := h.at_ i hp
  exact h.change i hp ⟨s, A, l, c, t, A', l', c', h1⟩ (fun _ _ h => h) (fun _ _ => rfl) h.below
theorem prodv_one {val : Nat → Nat → Option Rat} {i : Nat} : prodv val i 1 = (val 0 i).getD 0 := Rat.one_mul _
theorem prodv_two {val : Nat → Nat → Option Rat} {i : Nat} : prodv val i 2 = (val 0 i).getD 0 * (val 1 i).getD 0 := by
  show prodv val i 1 * _ = _
  rw [prodv_one]
theorem two_room {s t : ByteArray} {y z : Rat} (h : Rd s (some y)) (h' : Rd t (some z)) : F.Lt (D.B ^ 3000) (y * z) := by
  have h1 := F.times_lt2 (qdig_lt (Nat.le_refl (qdig (some y)))) (qdig_lt (Nat.le_refl (qdig (some z))))
  rw [← Nat.pow_add] at h1
  have h2 := qdig_le h
  have h3 := qdig_le h'
  exact room_D h1 (by omega)
/-- The sum of the first i products has room in 3000 limbs. -/
theorem sumv_room {m n i L : Nat} {val : Nat → Nat → Option Rat} (hm1 : 1 ≤ m) (hm2 : m ≤ 2) (hi : i ≤ n) (hok : ∀ k i, k < m → i < n → val k i ≠ none) (hL : IsMax val (fun k i => k < m ∧ i < n) L) (hl : n * L ≤ 6000) : F.Lt (D.B ^ 3000) (sumv m val i) := by
  have hx : ∀ k' i', k' < m → i' < n → ∃ x, val k' i' = some x ∧ qdig (some x) ≤ L := fun k' i' hk hi' => by
    have hn' := hok k' i' hk hi'
    have hd := hL.1 k' i' ⟨hk, hi'⟩
    cases hv : val k' i' with
    | none => exact absurd hv hn'
    | some y => rw [hv] at hd; exact ⟨y, rfl, hd⟩
  refine room_D (sumv_lt (m := m) (val := val) (L := L) (i := i) fun k' i' hk hi' => hx k' i' hk (Nat.lt_of_lt_of_le hi' hi)) (sum_room hi hm2 ?_ hl)
  by_cases h0 : i = 0
  · exact .inl h0
  · obtain ⟨y, _, hd⟩ := hx 0 0 (by omega) (by omega)
    exact .inr (Nat.le_trans (qdig_pos y) hd)
set_option linter.unusedSimpArgs false in
set_option maxHeartbeats 6400000 in
set_option maxRecDepth 100000 in
theorem dsum_any {w : World} {A : Option Addr} {n c : Nat} {txt : Nat → Nat → ByteArray} {val : Nat → Nat → Option Rat} (hn : n ≤ 100000) (h : Lst1 w A n (txt 0)) (hv : Reads_ 1 n txt val) :
    Calls Tryz.prog 15 #[.slice A n c] w fun e w' => ∃ v, e = .returned v ∧ SumRes 1 n val v ∧ Below w.heap.size w w' := by
  have hA := (Below.refl w.heap.size w).alloc (Nat.le_refl _) (.cells #[.slice A n c] 23)
  have H := Lib.hid (And.intro (lsts_one (c := c) h) (And.intro hv (And.intro hA h)))
  clear h hv hA
  go_enter Tryz.func15, Tryz.ntmps15
  go_wp2_with fail
  refine (light_any (m := 1) (by omega) (by omega) hn H.out.1 H.out.2.1).mono ?_
  rintro e w1 ⟨cc, rfl, hl, hb⟩
  have HB := Lib.hid (H.out.2.2.1.trans (hb.mono H.out.2.2.1.size))
  clear hb
  rcases hl with ⟨hbad, rfl⟩ | ⟨hok, L, hL, ⟨h6, rfl⟩ | ⟨h6, rfl⟩⟩
  · go_wp2
    go_ret2
    exact ⟨_, rfl, .inl ⟨hbad, rfl⟩, HB.out⟩
  · have HL := Lib.hid (And.intro hok (And.intro hL h6))
    clear hok hL h6
    go_wp2
    go_ret2
    exact ⟨_, rfl, .inr ⟨HL.out.1, L, HL.out.2.1, .inl ⟨HL.out.2.2, rfl⟩⟩, HB.out⟩
  · have HL := Lib.hid (And.intro hok (And.intro hL h6))
    clear hok hL h6
    go_upto_region 4 with fail
    go_cut [5] from 14 (fun s5 wx => ∃ g5 : Nat, s5 = .pointer (some ⟨g5, 0, none⟩) ∧ DPs w [(g5, .rat 0)] wx)
    case first =>
      go_wp2_with fail
      refine (dnewOf 0 (by decide) (by decide)).mono ?_
      rintro e w2 ⟨v, rfl, hv, hb⟩
      obtain ⟨s1, A1, l1, c1, t1, A1', l1', c1', rfl⟩ := hv.shape
      have HR := Lib.hid (And.intro ((⟨fun _ h => absurd h (by simp), fun _ h => absurd h (by simp), by simp, HB.out⟩ : DPs w [] w1).next hb) (show IsFrac w2 _ (0 : Rat) from hv))
      clear hv hb
      go_wp2_with fail
      go_meet
      exact ⟨_, rfl, HR.out.1.boxRat HR.out.2 rfl⟩
    obtain ⟨g5, rfl, hP⟩ := hcut
    have HP := Lib.hid hP
    clear hP
    go_wp2_with fail
    go_loopg [17] n (fun gh iv wr => ∃ i : Nat, i + gh = n ∧ iv = .int .i64 (i : Int) ∧ DPs w [(g5, .rat (sumv 1 val i))] wr)
    case atStart => exact ⟨0, by omega, rfl, HP.out⟩
    case round =>
      obtain ⟨i, hi, rfl, hP⟩ := hrel
      clear HP
      by_cases hin : i < n
      · have hroom := sumv_room (m := 1) (i := i) (by omega) (by omega) (Nat.le_of_lt hin) HL.out.1 HL.out.2.1 HL.out.2.2
        obtain ⟨x, hx⟩ : ∃ x, x = sumv 1 val i := ⟨_, rfl⟩
        rw [← hx] at hP hroom
        obtain ⟨b0, o0, rfl, hb0, hcs0⟩ := H.out.2.2.2 (by omega)
        have htc0 := (hP.below.cell (p := ⟨b0, o0 + i, none⟩) hb0).trans (hcs0 i hin)
        have hraw0 := hcs0 i hin
        have htx0 := H.out.2.1 0 i (by omega) hin
        have hne0 := HL.out.1 0 i (by omega) hin
        obtain ⟨s, hs0⟩ : ∃ s, s = txt 0 i := ⟨_, rfl⟩
        rw [← hs0] at htc0 htx0 hraw0
        obtain ⟨y, hr0⟩ : ∃ y, val 0 i = some y := by
          cases hv : val 0 i with
          | none => exact absurd hv hne0
          | some y => exact ⟨y, rfl⟩
        rw [hr0] at htx0
        have HI := Lib.hid (And.intro htx0 (show sumv 1 val (i + 1) = x + y by rw [hx]; show sumv 1 val i + prodv val i 1 = _; rw [prodv_one, hr0]; rfl))
        clear htx0 hr0 hs0 hne0 hcs0 hraw0 hx
        go_upto_region 8 with fail
        refine RelV.region_rest 4 [0, 1, 2, 3] _ rfl rfl (R := [fun v w => IsFrac w v (x), fun v _ => v = .string s, fun v w => IsFrac w v y, fun v w => IsFrac w v (x + y)])
          (E := DRE w [(g5, .rat x)] wr.heap.size 1000 1001) (T := fun w w' => Below w.heap.size w w') (by kernel_rfl) (by kernel_rfl) (by kernel_rfl) (DRE.start hP 1000 1001) ?_ ?_ ?_
        · intro D vals i v w1 w2 hi hE hT hv
          match i, hi with
          | 0, _ | 2, _ | 3, _ => exact IsFrac.below hv hT
          | 1, _ => exact hv
          | i + 4, hi => exact absurd hi (by omega)
        · refine RelV.Steps.cons (L := []) rfl (by kernel_rfl) ?_ ?_
          · intro vals w' D hE hF hR K hK
            obtain ⟨s, A, l, c, t, A', l', c', c0, c1, c2, c3, hi⟩ := hE.1.rat 0 rfl
            simp only [Rel.putL, Rel.dst, z1, z2, z3, z4, Act.put, z5, z6, z7] at hK ⊢
            go_simp
            exact hK _ _ hi (Below.refl _ _) (hE.same (by decide) (by decide))
          refine RelV.Steps.cons (L := []) rfl (by kernel_rfl) ?_ ?_
          · intro vals w' D hE hF hR K hK
            simp only [Rel.putL, Rel.dst, z1, z2, z3, z4, Act.put, z5, z6, z7] at hK ⊢
            go_simp
            exact hK _ _ rfl (Below.refl _ _) (hE.same (by decide) (by decide))
          refine RelV.Steps.cons (L := [1]) rfl (by kernel_rfl) ?_ ?_
          · intro vals w' D hE hF hR K hK
            have d1 : vals 1 = .string s := hR.1
            simp only [Rel.putL, Rel.dst, z1, z2, z3, z4, Act.put, z5, z6, z7, d1] at hK ⊢
            go_simp
            go_at_call 47
            refine (dratread_any (x := y) s HI.out.1.1 HI.out.1.2).mono ?_
            rintro e w2 ⟨v, rfl, hv, hb⟩
            exact hK _ _ hv hb (hE.step hb (by decide) (by decide))
          refine RelV.Steps.cons (L := [0, 2]) rfl (by kernel_rfl) ?_ ?_
          · intro vals w' D hE hF hR K hK
            have r0 := hR.1
            have r2 := hR.2.1
            simp only [Rel.putL, Rel.dst, z1, z2, z3, z4, Act.put, z5, z6, z7] at hK ⊢
            go_simp
            go_at_call 46
            refine (dadd_any (k := 3000) r0 r2 hroom (one_room HI.out.1.2).2 (by omega)).mono ?_
            rintro e w2 ⟨v, rfl, hv, hb⟩
            exact hK _ _ hv hb (hE.step hb (by decide) (by decide))
          exact RelV.Steps.done
        · intro vals w1 D hD hE hR
          obtain ⟨r0, r1, r2, r3, _⟩ := hR
          obtain ⟨sx, Ax, lx, cx, tx, Ax', lx', cx', ex⟩ := r3.shape
          rw [ex] at r3
          have hP2 := hE.1.rleft 0 rfl
          obtain ⟨m0, m1, m2, m3, d0, d1, d2, d3, f0, f1, f2, f3⟩ := hP2.rhole 0 rfl
          have HV := Lib.hid (And.intro r3 hP2)
          simp only [Rel.putL, Rel.dst, z1, z2, z3, z4, Act.put, z5, z6, z7, ex]
          clear hE hD hP2 r0 r1 r2 r3
          clear hroom htc0 hb0
          go_wp2
          go_roundg (n - (i + 1))
          case measure => omega
          case rel => exact ⟨i + 1, by omega, by go_num, by rw [show sumv 1 val (i + 1) = x + y from HI.out.2]; exact (HV.out.2.rstored 0 rfl HV.out.1).2.2.2.2.2⟩
      · have ein : n = i := by omega
        subst ein
        have hroom := sumv_room (m := 1) (i := n) (by omega) (by omega) (Nat.le_refl _) HL.out.1 HL.out.2.1 HL.out.2.2
        obtain ⟨x, hx⟩ : ∃ x, x = sumv 1 val n := ⟨_, rfl⟩
        rw [← hx] at hP hroom
        obtain ⟨sp, Ap, lp, cp, tp, Ap', lp', cp', c0, c1, c2, c3, hp⟩ := hP.rat 0 rfl
        obtain ⟨o, co, hoc⟩ := qgive_two x
        have HQ := Lib.hid (And.intro hP (And.intro hp (And.intro hroom (And.intro hoc hx))))
        clear hP hp hroom hoc hx
        go_wp2_with fail
        refine (dgive_any (k := 3000) HQ.out.2.1 HQ.out.2.2.1 (by omega)).mono ?_
        rw [HQ.out.2.2.2.1]
        rintro e w2 ⟨rfl, hb⟩
        have HF := Lib.hid (HQ.out.1.next hb)
        clear hb
        go_wp2
        go_ret2
        exact ⟨_, rfl, .inr ⟨HL.out.1, L, HL.out.2.1, .inr ⟨HL.out.2.2, by rw [← HQ.out.2.2.2.2, HQ.out.2.2.2.1]; rfl⟩⟩, HF.out.below⟩
set_option linter.unusedSimpArgs false in
set_option maxHeartbeats 6400000 in
set_option maxRecDepth 100000 in
theorem ddot_any {w : World} {A A' : Option Addr} {n c c' : Nat} {txt : Nat → Nat → ByteArray} {val : Nat → Nat → Option Rat} (hn : n ≤ 100000) (h : Lst1 w A n (txt 0)) (h' : Lst1 w A' n (txt 1)) (hv : Reads_ 2 n txt val) :
    Calls Tryz.prog 17 #[.slice A n c, .slice A' n c'] w fun e w' => ∃ v, e = .returned v ∧ SumRes 2 n val v ∧ Below w.heap.size w w' := by
  have hA := (Below.refl w.heap.size w).alloc (Nat.le_refl _) (.cells #[.slice A n c, .slice A' n c'] 23)
  have H := Lib.hid (And.intro (lsts_two (c := c) (c' := c') h h') (And.intro hv (And.intro hA (And.intro h h'))))
  clear h h' hv hA
  go_enter Tryz.func17, Tryz.ntmps17
  go_wp2_with fail
  refine (light_any (m := 2) (by omega) (by omega) hn H.out.1 H.out.2.1).mono ?_
  rintro e w1 ⟨cc, rfl, hl, hb⟩
  have HB := Lib.hid (H.out.2.2.1.trans (hb.mono H.out.2.2.1.size))
  clear hb
  rcases hl with ⟨hbad, rfl⟩ | ⟨hok, L, hL, ⟨h6, rfl⟩ | ⟨h6, rfl⟩⟩
  · go_wp2
    go_ret2
    exact ⟨_, rfl, .inl ⟨hbad, rfl⟩, HB.out⟩
  · have HL := Lib.hid (And.intro hok (And.intro hL h6))
    clear hok hL h6
    go_wp2
    go_ret2
    exact ⟨_, rfl, .inr ⟨HL.out.1, L, HL.out.2.1, .inl ⟨HL.out.2.2, rfl⟩⟩, HB.out⟩
  · have HL := Lib.hid (And.intro hok (And.intro hL h6))
    clear hok hL h6
    go_upto_region 6 with fail
    go_cut [7] from 20 (fun s5 wx => ∃ g5 : Nat, s5 = .pointer (some ⟨g5, 0, none⟩) ∧ DPs w [(g5, .rat 0)] wx)
    case first =>
      go_wp2_with fail
      refine (dnewOf 0 (by decide) (by decide)).mono ?_
      rintro e w2 ⟨v, rfl, hv, hb⟩
      obtain ⟨s1, A1, l1, c1, t1, A1', l1', c1', rfl⟩ := hv.shape
      have HR := Lib.hid (And.intro ((⟨fun _ h => absurd h (by simp), fun _ h => absurd h (by simp), by simp, HB.out⟩ : DPs w [] w1).next hb) (show IsFrac w2 _ (0 : Rat) from hv))
      clear hv hb
      go_wp2_with fail
      go_meet
      exact ⟨_, rfl, HR.out.1.boxRat HR.out.2 rfl⟩
    obtain ⟨g5, rfl, hP⟩ := hcut
    have HP := Lib.hid hP
    clear hP
    go_wp2_with fail
    go_loopg [24] n (fun gh iv wr => ∃ i : Nat, i + gh = n ∧ iv = .int .i64 (i : Int) ∧ DPs w [(g5, .rat (sumv 2 val i))] wr)
    case atStart => exact ⟨0, by omega, rfl, HP.out⟩
    case round =>
      obtain ⟨i, hi, rfl, hP⟩ := hrel
      clear HP
      by_cases hin : i < n
      · have hroom := sumv_room (m := 2) (i := i) (by omega) (by omega) (Nat.le_of_lt hin) HL.out.1 HL.out.2.1 HL.out.2.2
        obtain ⟨x, hx⟩ : ∃ x, x = sumv 2 val i := ⟨_, rfl⟩
        rw [← hx] at hP hroom
        obtain ⟨b0, o0, rfl, hb0, hcs0⟩ := H.out.2.2.2.1 (by omega)
        have htc0 := (hP.below.cell (p := ⟨b0, o0 + i, none⟩) hb0).trans (hcs0 i hin)
        have hraw0 := hcs0 i hin
        have htx0 := H.out.2.1 0 i (by omega) hin
        have hne0 := HL.out.1 0 i (by omega) hin
        obtain ⟨s, hs0⟩ : ∃ s, s = txt 0 i := ⟨_, rfl⟩
        rw [← hs0] at htc0 htx0 hraw0
        obtain ⟨y, hr0⟩ : ∃ y, val 0 i = some y := by
          cases hv : val 0 i with
          | none => exact absurd hv hne0
          | some y => exact ⟨y, rfl⟩
        rw [hr0] at htx0
        obtain ⟨b1, o1, rfl, hb1, hcs1⟩ := H.out.2.2.2.2 (by omega)
        have htc1 := (hP.below.cell (p := ⟨b1, o1 + i, none⟩) hb1).trans (hcs1 i hin)
        have hraw1 := hcs1 i hin
        have htx1 := H.out.2.1 1 i (by omega) hin
        have hne1 := HL.out.1 1 i (by omega) hin
        obtain ⟨t, hs1⟩ : ∃ t, t = txt 1 i := ⟨_, rfl⟩
        rw [← hs1] at htc1 htx1 hraw1
        obtain ⟨z, hr1⟩ : ∃ y, val 1 i = some y := by
          cases hv : val 1 i with
          | none => exact absurd hv hne1
          | some y => exact ⟨y, rfl⟩
        rw [hr1] at htx1
        have HI := Lib.hid (And.intro htx0 (show sumv 2 val (i + 1) = x + y * z by rw [hx]; show sumv 2 val i + prodv val i 2 = _; rw [prodv_two, hr0, hr1]; rfl))
        have HI2 := Lib.hid htx1
        have hroom2 := two_room htx0.2 htx1.2
        clear htx0 hr0 hs0 hne0 hcs0 htx1 hr1 hs1 hne1 hcs1 hx
        go_upto_region 10 with fail
        refine RelV.region_rest 13 [0, 1, 2, 3, 4, 5, 6, 7, 8, 9, 10, 11, 12] _ rfl rfl (R := [fun v w => IsFrac w v (x), fun v _ => v = .slice (some ⟨b0, o0, none⟩) n c, fun v _ => v = .int .i64 (i : Int), fun v _ => v = .pointer (some ⟨b0, o0 + i, none⟩), fun v _ => v = .string s, fun v w => IsFrac w v y, fun v _ => v = .slice (some ⟨b1, o1, none⟩) n c', fun v _ => v = .int .i64 (i : Int), fun v _ => v = .pointer (some ⟨b1, o1 + i, none⟩), fun v _ => v = .string t, fun v w => IsFrac w v z, fun v w => IsFrac w v (y * z), fun v w => IsFrac w v (x + y * z)])
          (E := DRE w [(g5, .rat x)] wr.heap.size 1000 1001) (T := fun w w' => Below w.heap.size w w') (by kernel_rfl) (by kernel_rfl) (by kernel_rfl) (DRE.start hP 1000 1001) ?_ ?_ ?_
        · intro D vals i v w1 w2 hi hE hT hv
          match i, hi with
          | 0, _ | 5, _ | 10, _ | 11, _ | 12, _ => exact IsFrac.below hv hT
          | 1, _ | 2, _ | 3, _ | 4, _ | 6, _ | 7, _ | 8, _ | 9, _ => exact hv
          | i + 13, hi => exact absurd hi (by omega)
        · refine RelV.Steps.cons (L := []) rfl (by kernel_rfl) ?_ ?_
          · intro vals w' D hE hF hR K hK
            obtain ⟨s, A, l, c, t, A', l', c', c0, c1, c2, c3, hi⟩ := hE.1.rat 0 rfl
            simp only [Rel.putL, Rel.dst, z1, z2, z3, z4, Act.put, z5, z6, z7] at hK ⊢
            go_simp
            exact hK _ _ hi (Below.refl _ _) (hE.same (by decide) (by decide))
          refine RelV.Steps.cons (L := []) rfl (by kernel_rfl) ?_ ?_
          · intro vals w' D hE hF hR K hK
            simp only [Rel.putL, Rel.dst, z1, z2, z3, z4, Act.put, z5, z6, z7] at hK ⊢
            go_simp
            exact hK _ _ rfl (Below.refl _ _) (hE.same (by decide) (by decide))
          refine RelV.Steps.cons (L := []) rfl (by kernel_rfl) ?_ ?_
          · intro vals w' D hE hF hR K hK
            simp only [Rel.putL, Rel.dst, z1, z2, z3, z4, Act.put, z5, z6, z7] at hK ⊢
            go_simp
            exact hK _ _ rfl (Below.refl _ _) (hE.same (by decide) (by decide))
          refine RelV.Steps.cons (L := [1, 2]) rfl (by kernel_rfl) ?_ ?_
          · intro vals w' D hE hF hR K hK
            have d1 : vals 1 = .slice (some ⟨b0, o0, none⟩) n c := hR.1
            have d2 : vals 2 = .int .i64 (i : Int) := hR.2.1
            simp only [Rel.putL, Rel.dst, z1, z2, z3, z4, Act.put, z5, z6, z7, d1, d2] at hK ⊢
            go_simp
            exact hK _ _ rfl (Below.refl _ _) (hE.same (by decide) (by decide))
          refine RelV.Steps.cons (L := [3]) rfl (by kernel_rfl) ?_ ?_
          · intro vals w' D hE hF hR K hK
            have d3 : vals 3 = .pointer (some ⟨b0, o0 + i, none⟩) := hR.1
            have hq := (hE.1.below.cell (p := ⟨b0, o0 + i, none⟩) hb0).trans hraw0
            simp only [Rel.putL, Rel.dst, z1, z2, z3, z4, Act.put, z5, z6, z7, d3] at hK ⊢
            go_simp
            exact hK _ _ rfl (Below.refl _ _) (hE.same (by decide) (by decide))
          refine RelV.Steps.cons (L := [4]) rfl (by kernel_rfl) ?_ ?_
          · intro vals w' D hE hF hR K hK
            have d4 : vals 4 = .string s := hR.1
            simp only [Rel.putL, Rel.dst, z1, z2, z3, z4, Act.put, z5, z6, z7, d4] at hK ⊢
            go_simp
            go_at_call 47
            refine (dratread_any (x := y) s HI.out.1.1 HI.out.1.2).mono ?_
            rintro e w2 ⟨v, rfl, hv, hb⟩
            exact hK _ _ hv hb (hE.step hb (by decide) (by decide))
          refine RelV.Steps.cons (L := []) rfl (by kernel_rfl) ?_ ?_
          · intro vals w' D hE hF hR K hK
            simp only [Rel.putL, Rel.dst, z1, z2, z3, z4, Act.put, z5, z6, z7] at hK ⊢
            go_simp
            exact hK _ _ rfl (Below.refl _ _) (hE.same (by decide) (by decide))
          refine RelV.Steps.cons (L := []) rfl (by kernel_rfl) ?_ ?_
          · intro vals w' D hE hF hR K hK
            simp only [Rel.putL, Rel.dst, z1, z2, z3, z4, Act.put, z5, z6, z7] at hK ⊢
            go_simp
            exact hK _ _ rfl (Below.refl _ _) (hE.same (by decide) (by decide))
          refine RelV.Steps.cons (L := [6, 7]) rfl (by kernel_rfl) ?_ ?_
          · intro vals w' D hE hF hR K hK
            have d6 : vals 6 = .slice (some ⟨b1, o1, none⟩) n c' := hR.1
            have d7 : vals 7 = .int .i64 (i : Int) := hR.2.1
            simp only [Rel.putL, Rel.dst, z1, z2, z3, z4, Act.put, z5, z6, z7, d6, d7] at hK ⊢
            go_simp
            exact hK _ _ rfl (Below.refl _ _) (hE.same (by decide) (by decide))
          refine RelV.Steps.cons (L := [8]) rfl (by kernel_rfl) ?_ ?_
          · intro vals w' D hE hF hR K hK
            have d8 : vals 8 = .pointer (some ⟨b1, o1 + i, none⟩) := hR.1
            have hq := (hE.1.below.cell (p := ⟨b1, o1 + i, none⟩) hb1).trans hraw1
            simp only [Rel.putL, Rel.dst, z1, z2, z3, z4, Act.put, z5, z6, z7, d8] at hK ⊢
            go_simp
            exact hK _ _ rfl (Below.refl _ _) (hE.same (by decide) (by decide))
          refine RelV.Steps.cons (L := [9]) rfl (by kernel_rfl) ?_ ?_
          · intro vals w' D hE hF hR K hK
            have d9 : vals 9 = .string t := hR.1
            simp only [Rel.putL, Rel.dst, z1, z2, z3, z4, Act.put, z5, z6, z7, d9] at hK ⊢
            go_simp
            go_at_call 47
            refine (dratread_any (x := z) t HI2.out.1 HI2.out.2).mono ?_
            rintro e w2 ⟨v, rfl, hv, hb⟩
            exact hK _ _ hv hb (hE.step hb (by decide) (by decide))
          refine RelV.Steps.cons (L := [5, 10]) rfl (by kernel_rfl) ?_ ?_
          · intro vals w' D hE hF hR K hK
            have r5 := hR.1
            have r10 := hR.2.1
            simp only [Rel.putL, Rel.dst, z1, z2, z3, z4, Act.put, z5, z6, z7] at hK ⊢
            go_simp
            go_at_call 49
            refine (dmul_any (k := 3000) r5 r10 (one_room HI.out.1.2).2 (one_room HI2.out.2).2 (by omega)).mono ?_
            rintro e w2 ⟨v, rfl, hv, hb⟩
            exact hK _ _ hv hb (hE.step hb (by decide) (by decide))
          refine RelV.Steps.cons (L := [0, 11]) rfl (by kernel_rfl) ?_ ?_
          · intro vals w' D hE hF hR K hK
            have r0 := hR.1
            have r11 := hR.2.1
            simp only [Rel.putL, Rel.dst, z1, z2, z3, z4, Act.put, z5, z6, z7] at hK ⊢
            go_simp
            go_at_call 46
            refine (dadd_any (k := 3000) r0 r11 hroom hroom2 (by omega)).mono ?_
            rintro e w2 ⟨v, rfl, hv, hb⟩
            exact hK _ _ hv hb (hE.step hb (by decide) (by decide))
          exact RelV.Steps.done
        · intro vals w1 D hD hE hR
          obtain ⟨r0, r1, r2, r3, r4, r5, r6, r7, r8, r9, r10, r11, r12, _⟩ := hR
          obtain ⟨sx, Ax, lx, cx, tx, Ax', lx', cx', ex⟩ := r12.shape
          rw [ex] at r12
          have hP2 := hE.1.rleft 0 rfl
          obtain ⟨m0, m1, m2, m3, d0, d1, d2, d3, f0, f1, f2, f3⟩ := hP2.rhole 0 rfl
          have HV := Lib.hid (And.intro r12 hP2)
          simp only [Rel.putL, Rel.dst, z1, z2, z3, z4, Act.put, z5, z6, z7, ex]
          clear hE hD hP2 r0 r1 r2 r3 r4 r5 r6 r7 r8 r9 r10 r11 r12
          clear hroom htc0 hb0 hroom2 htc1 hb1 hraw0 hraw1
          go_wp2
          go_roundg (n - (i + 1))
          case measure => omega
          case rel => exact ⟨i + 1, by omega, by go_num, by rw [show sumv 2 val (i + 1) = x + y * z from HI.out.2]; exact (HV.out.2.rstored 0 rfl HV.out.1).2.2.2.2.2⟩
      · have ein : n = i := by omega
        subst ein
        have hroom := sumv_room (m := 2) (i := n) (by omega) (by omega) (Nat.le_refl _) HL.out.1 HL.out.2.1 HL.out.2.2
        obtain ⟨x, hx⟩ : ∃ x, x = sumv 2 val n := ⟨_, rfl⟩
        rw [← hx] at hP hroom
        obtain ⟨sp, Ap, lp, cp, tp, Ap', lp', cp', c0, c1, c2, c3, hp⟩ := hP.rat 0 rfl
        obtain ⟨o, co, hoc⟩ := qgive_two x
        have HQ := Lib.hid (And.intro hP (And.intro hp (And.intro hroom (And.intro hoc hx))))
        clear hP hp hroom hoc hx
        go_wp2_with fail
        refine (dgive_any (k := 3000) HQ.out.2.1 HQ.out.2.2.1 (by omega)).mono ?_
        rw [HQ.out.2.2.2.1]
        rintro e w2 ⟨rfl, hb⟩
        have HF := Lib.hid (HQ.out.1.next hb)
        clear hb
        go_wp2
        go_ret2
        exact ⟨_, rfl, .inr ⟨HL.out.1, L, HL.out.2.1, .inr ⟨HL.out.2.2, by rw [← HQ.out.2.2.2.2, HQ.out.2.2.2.1]; rfl⟩⟩, HF.out.below⟩
end Go.Proofs.YtigplffpnbdkeaaGreatDoor
