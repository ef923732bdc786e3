/- The reference's Compare, Gcd, Make and Small of texts. The reference's Sign on texts of numbers. Both packages' Add, Mul and Div of any two texts: one result for both. Both packages' Valid, Sign, Compare, Gcd and Make of any texts: one result for both. The reference's Small of texts. Package integer's Small of any text, and one result for both packages. -/
import Derived.Test.YtigplffpnbdkeaaGreatDoorDApi
import Derived.Test.YtigplffpnbdkeaaGreatDoorLawOrder
import Derived.Test.YtigplffpnbdkeaaGreatDoorRefV
import Derived.Test.YtigplffpnbdkeaaGreatDoorDDiv
import Derived.Test.YtigplffpnbdkeaaGreatDoorNum
namespace Go.Proofs.YtigplffpnbdkeaaGreatDoor
open Go Go.RowKit

theorem rmake1_any {w : World} (n : Int) (h1 : -9223372036854775808 ≤ n) (h2 : n ≤ 9223372036854775807) :
    Calls Tryz.prog 18 #[.int .i64 n] w fun e w' => e = .returned (.string ⟨(Lib.itoa n).toArray⟩) ∧ Below w.heap.size w w' := by
  have hnb : n.natAbs < D.B ^ 3 := by
    have : 9223372036854775808 < D.B ^ 3 := by rw [D.B_eq]; decide
    omega
  obtain ⟨a, ha⟩ : ∃ a, a = decide (n < 0) := ⟨_, rfl⟩
  have H := Lib.hid (And.intro ha hnb)
  clear ha hnb
  go_enter Tryz.func18, Tryz.ntmps18
  go_wp2_with fail
  refine (rof_any n h1 h2).mono ?_
  rw [← H.out.1]
  rintro e w1 ⟨u, rfl, hu, hb1⟩
  have H1 := Lib.hid (And.intro (show DBig w1 (.agg #[.bool a, u]) n by rw [H.out.1]; exact hu.big) hb1)
  clear hu hb1
  go_wp2_with fail
  refine (rtext_any H1.out.1 H.out.2 (by omega)).mono ?_
  rintro e w2 ⟨rfl, hb2⟩
  have H2 := Lib.hid (H1.out.2.trans (hb2.mono H1.out.2.size))
  clear hb2
  go_wp2
  go_ret
  exact ⟨rfl, H2.out⟩
end Go.Proofs.YtigplffpnbdkeaaGreatDoor
namespace Go.Proofs.YtigplffpnbdkeaaGreatDoor
open Go Go.RowKit

end Go.Proofs.YtigplffpnbdkeaaGreatDoor
namespace Go.Proofs.YtigplffpnbdkeaaGreatDoor
open Go Go.RowKit

set_option maxHeartbeats 400000 in
theorem div_bad {w : World} (s t : ByteArray) (h : (vld s.data.toList && vld t.data.toList) = false) :
    Calls Tryz.prog 87 #[.string s, .string t] w fun e w' => e = .returned (.tuple #[.string ⟨#[]⟩, .string ⟨#[]⟩, .int .i64 1]) ∧ Below w.heap.size w w' := by
  have H := Lib.hid h
  clear h
  by_cases h1 : vld s.data.toList = true
  · have h2 : vld t.data.toList = false := by have := H.out; rw [h1, Bool.true_and] at this; exact this
    have HV := Lib.hid (And.intro h1 h2)
    clear h1 h2
    go_enter Tryz.func87, Tryz.ntmps87
    go_wp2_with fail
    refine (valid_any s).mono ?_
    rw [HV.out.1]
    rintro e w1 ⟨rfl, rfl⟩
    go_wp2_with fail
    refine (valid_any t).mono ?_
    rw [HV.out.2]
    rintro e w1 ⟨rfl, rfl⟩
    go_wp2
    go_ret3
    exact ⟨rfl, Below.refl _ _⟩
  · have h2 : vld s.data.toList = false := by simpa using h1
    have HV := Lib.hid h2
    clear h1 h2
    go_enter Tryz.func87, Tryz.ntmps87
    go_wp2_with fail
    refine (valid_any s).mono ?_
    rw [HV.out]
    rintro e w1 ⟨rfl, rfl⟩
    go_wp2
    go_ret3
    exact ⟨rfl, Below.refl _ _⟩

theorem both1_cases (s t : ByteArray) : (vld s.data.toList && vld t.data.toList) = false ∨ ∃ p q, s.data.toList = Lib.itoa p ∧ t.data.toList = Lib.itoa q ∧ Lib.nDigits p.natAbs ≤ 400 ∧ Lib.nDigits q.natAbs ≤ 400 := by
  rcases Bool.eq_false_or_eq_true (vld s.data.toList && vld t.data.toList) with h | h
  · rw [Bool.and_eq_true] at h
    obtain ⟨p, hp, hp'⟩ := itoa_of_vld h.1
    obtain ⟨q, hq, hq'⟩ := itoa_of_vld h.2
    exact .inr ⟨p, q, hp, hq, hp', hq'⟩
  · exact .inl h
theorem give_two (z : Int) : ∃ r c, give z = .tuple #[.string r, .int .i64 c] := by
  unfold give
  split
  · exact ⟨_, _, rfl⟩
  · exact ⟨_, _, rfl⟩
end Go.Proofs.YtigplffpnbdkeaaGreatDoor
namespace Go.Proofs.YtigplffpnbdkeaaGreatDoor
open Go Go.RowKit

set_option maxHeartbeats 400000 in
theorem sign_bad {w : World} (s : ByteArray) (h : vld s.data.toList = false) : Calls Tryz.prog 80 #[.string s] w fun e w' => e = .returned (.int .i64 0) ∧ w = w' := by
  have HV := Lib.hid h
  clear h
  go_enter Tryz.func80, Tryz.ntmps80
  go_wp2_with fail
  refine (valid_c s HV.out).mono ?_
  rintro e w1 ⟨rfl, rfl⟩
  go_wp2
  go_ret
  exact ⟨rfl, rfl⟩
set_option maxHeartbeats 800000 in
theorem compare_bad {w : World} (s t : ByteArray) (h : (vld s.data.toList && vld t.data.toList) = false) :
    Calls Tryz.prog 137 #[.string s, .string t] w fun e w' => e = .returned (.int .i64 0) ∧ Below w.heap.size w w' := by
  have H := Lib.hid h
  clear h
  by_cases h1 : vld s.data.toList = true
  · have h2 : vld t.data.toList = false := by have := H.out; rw [h1, Bool.true_and] at this; exact this
    have HV := Lib.hid (And.intro h1 h2)
    clear h1 h2
    go_enter Tryz.func137, Tryz.ntmps137
    go_wp2_with fail
    refine (valid_c s HV.out.1).mono ?_
    rintro e w1 ⟨rfl, rfl⟩
    go_wp2_with fail
    refine (valid_c t HV.out.2).mono ?_
    rintro e w1 ⟨rfl, rfl⟩
    go_wp2
    go_ret
    exact ⟨rfl, Below.refl _ _⟩
  · have h2 : vld s.data.toList = false := by simpa using h1
    have HV := Lib.hid h2
    clear h1 h2
    go_enter Tryz.func137, Tryz.ntmps137
    go_wp2_with fail
    refine (valid_c s HV.out).mono ?_
    rintro e w1 ⟨rfl, rfl⟩
    go_wp2
    go_ret
    exact ⟨rfl, Below.refl _ _⟩
theorem num_of {s : ByteArray} {z : Int} {k : Nat} (h : s.data.toList = Lib.itoa z) (hd : Lib.nDigits z.natAbs ≤ k) : Num s z k :=
  ⟨h, Nat.lt_of_lt_of_le (Lib.lt_pow_nDigits _) (Nat.pow_le_pow_right (by decide) hd)⟩
theorem valid_tot (s : ByteArray) : ∃ b, (∀ w, Calls Tryz.prog 79 #[.string s] w fun e w' => e = .returned (.bool b) ∧ w = w') ∧ (∀ w, Calls Tryz.prog 52 #[.string s] w fun e w' => e = .returned (.bool b) ∧ w = w') :=
  ⟨_, fun _ => valid_c s rfl, fun _ => rvalid_b s rfl⟩
theorem make_tot (n : Int) (h0 : -9223372036854775808 ≤ n) (h1 : n ≤ 9223372036854775807) : ∃ r, (∀ w, Tab w → Calls Tryz.prog 89 #[.int .i64 n] w fun e w' => e = .returned (.string r) ∧ Below w.heap.size w w') ∧
    (∀ w, Calls Tryz.prog 18 #[.int .i64 n] w fun e w' => e = .returned (.string r) ∧ Below w.heap.size w w') :=
  ⟨_, fun _ ht => imake_any n h0 h1 ht, fun _ => rmake1_any n h0 h1⟩

end Go.Proofs.YtigplffpnbdkeaaGreatDoor
namespace Go.Proofs.YtigplffpnbdkeaaGreatDoor
open Go Go.RowKit

def inSm (n : Int) : Bool := decide (n.natAbs ≤ 4611686018427387904)
theorem dval_step {n i : Nat} : n / D.B ^ (i + 1) * 1000000000 + D.dg n i = n / D.B ^ i := by
  have h := Nat.div_add_mod (n / D.B ^ i) D.B
  rw [Nat.div_div_eq_div_mul, ← Nat.pow_succ, Nat.mul_comm] at h
  rw [← D.B_eq]
  exact h
set_option maxHeartbeats 800000 in
theorem rsmall_bad {w : World} (s : ByteArray) (h : vld s.data.toList = false) :
    Calls Tryz.prog 21 #[.string s] w fun e w' => e = .returned (.tuple #[.int .i64 0, .bool false]) ∧ Below w.heap.size w w' := by
  have HV := Lib.hid h
  clear h
  go_enter Tryz.func21, Tryz.ntmps21
  go_wp2_with fail
  refine (rvalid_b s HV.out).mono ?_
  rintro e w1 ⟨rfl, rfl⟩
  go_wp2
  go_ret2
  exact ⟨rfl, Below.refl _ _⟩
set_option maxHeartbeats 3200000 in
set_option maxRecDepth 100000 in
theorem rsmall_ok {w : World} (s : ByteArray) {n : Int} (hs : s.data.toList = Lib.itoa n) (hd : Lib.nDigits n.natAbs ≤ 400) :
    Calls Tryz.prog 21 #[.string s] w fun e w' => e = .returned (.tuple #[.int .i64 (if inSm n = true then n else 0), .bool (inSm n)]) ∧ Below w.heap.size w w' := by
  have hv : vld s.data.toList = true := by rw [hs]; exact vld_itoa hd
  have hP := lt_dten _ hd
  obtain ⟨a, ha⟩ : ∃ a, a = decide (n < 0) := ⟨_, rfl⟩
  obtain ⟨N, hN⟩ : ∃ N, N = n.natAbs := ⟨_, rfl⟩
  rw [← hN] at hP
  obtain ⟨cc, hcc⟩ : ∃ cc, cc = cmpI (N : Int) 4611686018427387904 := ⟨_, rfl⟩
  have H := Lib.hid (And.intro hs (And.intro hd (And.intro hv (And.intro hP (And.intro ha (And.intro hN hcc))))))
  clear hs hd hv hP ha hN hcc
  obtain ⟨ok, hok⟩ : ∃ ok, ok = inSm n := ⟨_, rfl⟩
  obtain ⟨r, hr⟩ : ∃ r, r = if inSm n = true then n else 0 := ⟨_, rfl⟩
  rw [← hr, ← hok]
  have HR := Lib.hid (And.intro hok hr)
  clear hok hr
  go_enter Tryz.func21, Tryz.ntmps21
  go_wp2_with fail
  refine (rvalid_b s H.out.2.2.1).mono ?_
  rintro e w1 ⟨rfl, rfl⟩
  go_wp2_with fail
  refine (rread_any s H.out.1 H.out.2.1).mono ?_
  rw [← H.out.2.2.2.2.1, ← H.out.2.2.2.2.2.1]
  rintro e w1 ⟨u, rfl, ⟨A, L, c, rfl, hl, hm, hc, hcm⟩, hb1⟩
  have hL := dlen_le hm H.out.2.2.2.1
  have H1 := Lib.hid (And.intro (show DSz w1 (.slice A L c) N from ⟨A, L, c, rfl, hl, hm, hc, hcm⟩) hb1)
  unfold maxLen at hcm
  clear hl hm hb1
  go_wp2_with fail
  refine (rof_any 4611686018427387904 (by omega) (by omega)).mono ?_
  rintro e w2 ⟨v, rfl, ⟨A2, L2, c2, rfl, hl, hm, hc2, hcm2⟩, hb2⟩
  rw [show decide ((4611686018427387904 : Int) < 0) = false from rfl]
  have hB2 : Below w.heap.size w w2 := (H1.out.2.alloc H1.out.2.size _).trans (hb2.mono (Nat.le_trans H1.out.2.size (by simp)))
  have hL2 := dlen_le (k := 3) hm (by rw [D.B_eq]; decide)
  have k0 : w2.heap[w1.heap.size]? = some (.cells #[.bool a, .slice A L c] 85 (0, 0)) := (hb2.block _ (by simp)).trans (heap_alloc_new w1 _)
  have hlt := lt_of_block k0
  have hN2 : DSz w2 (.slice A L c) N := (H1.out.1.alloc (.cells #[.bool a, .slice A L c] 85)).below hb2 (Nat.le_refl _)
  have hWb : Below w2.heap.size w2 (w2.alloc (.cells #[.bool false, .slice A2 L2 c2] 85)) := (Below.refl _ _).alloc (Nat.le_refl _) _
  have c0 : (w2.alloc (.cells #[.bool false, .slice A2 L2 c2] 85)).cell? ⟨w1.heap.size, 0, none⟩ = some (.bool a) := cell_at ((hWb.block _ hlt).trans k0) rfl
  have c1 : (w2.alloc (.cells #[.bool false, .slice A2 L2 c2] 85)).cell? ⟨w1.heap.size, 1, none⟩ = some (.slice A L c) := cell_at ((hWb.block _ hlt).trans k0) rfl
  have d1 : (w2.alloc (.cells #[.bool false, .slice A2 L2 c2] 85)).cell? ⟨w2.heap.size, 1, none⟩ = some (.slice A2 L2 c2) := cell_at (heap_alloc_new w2 _) rfl
  have HW := Lib.hid (And.intro (hN2.below hWb (Nat.le_refl _)) (And.intro (hl.below hWb (Nat.le_refl _)) (And.intro hm (And.intro (hB2.trans (hWb.mono hB2.size)) ((hWb.block _ hlt).trans k0)))))
  unfold maxLen at hcm2
  clear hl hm hb2 hB2 k0 hN2 hWb H1
  go_wp2_with fail
  generalize w2.alloc (.cells #[.bool false, .slice A2 L2 c2] 85) = W at *
  obtain ⟨A', L', c', e, hl, hm, _, _⟩ := HW.out.1
  obtain ⟨rfl, rfl, rfl⟩ := Value.slice.inj e
  have hbnd := dlen_le hm H.out.2.2.2.1
  refine (dsize_any c c2 hl HW.out.2.1 hm HW.out.2.2.1 (by omega) (by omega)).mono ?_
  rw [show cmpI (N : Int) ((4611686018427387904 : Int).natAbs : Nat) = cc from H.out.2.2.2.2.2.2.symm]
  rintro e w3 ⟨rfl, hd3⟩
  obtain ⟨kd, rfl⟩ := hd3
  have HB := Lib.hid (show Below w.heap.size w (W.drewN kd) from HW.out.2.2.2.1.trans ((Drawn.refl W).drewN kd |>.below _))
  have x0 : (W.drewN kd).cell? ⟨w1.heap.size, 0, none⟩ = some (.bool a) := c0
  have x1 : (W.drewN kd).cell? ⟨w1.heap.size, 1, none⟩ = some (.slice A L c) := c1
  have HL := Lib.hid (show DL (W.drewN kd) A L N from hl)
  clear e hl hm HW c0 c1 d1 hL2 hc2 hcm2 hlt
  generalize W.drewN kd = W at *
  by_cases hbig : 4611686018427387904 < N
  · have hc1 : cc = 1 := by rw [H.out.2.2.2.2.2.2]; unfold cmpI; rw [if_neg (by omega), if_pos (by omega)]
    subst hc1
    have hin : inSm n = false := decide_eq_false (by rw [← H.out.2.2.2.2.2.1]; omega)
    have HI := Lib.hid hin
    clear hin hbig
    go_wp2
    go_ret2
    exact ⟨by rw [HR.out.2, HR.out.1, HI.out]; rfl, HB.out⟩
  · have hc1 : cc ≤ 0 := by rw [H.out.2.2.2.2.2.2]; unfold cmpI; split <;> (try split) <;> omega
    have hin : inSm n = true := decide_eq_true (by rw [← H.out.2.2.2.2.2.1]; omega)
    have HI := Lib.hid hin
    clear hin
    go_wp2_with fail
    clear hc1
    go_loop [6, 7] (fun nv iv => ∃ k M : Nat, k ≤ L ∧ M = N / D.B ^ k ∧ iv = .int .i64 ((k : Int) - 1) ∧ nv = .int .i64 (M : Int)) (fun _ iv => (intOf iv + 1).toNat)
    case atStart => exact ⟨L, 0, Nat.le_refl _, (Nat.div_eq_of_lt HL.out.1).symm, rfl, rfl⟩
    case round =>
      obtain ⟨k, M, hk, hM, rfl, rfl⟩ := hrel
      by_cases h0 : k = 0
      · subst h0
        obtain rfl : M = N := by rw [hM]; simp
        have hnM : a = true → n = -(M : Int) := fun h => by
          have := of_decide_eq_true (H.out.2.2.2.2.1.symm.trans h)
          have := H.out.2.2.2.2.2.1
          omega
        have hnP : a = false → n = (M : Int) := fun h => by
          have := of_decide_eq_false (H.out.2.2.2.2.1.symm.trans h)
          have := H.out.2.2.2.2.2.1
          omega
        clear hM
        cases a
        · have hn := hnP rfl
          have HN := Lib.hid hn
          clear hn hnP hnM
          go_wp2
          go_ret2
          exact ⟨by rw [HR.out.2, HR.out.1, HI.out, if_pos rfl, HN.out]; rfl, HB.out⟩
        · have hn := hnM rfl
          have HN := Lib.hid hn
          clear hn hnP hnM
          go_wp2
          go_ret2
          exact ⟨by rw [HR.out.2, HR.out.1, HI.out, if_pos rfl, HN.out]; rfl, HB.out⟩
      · obtain ⟨i, rfl⟩ : ∃ i, k = i + 1 := ⟨k - 1, by omega⟩
        obtain ⟨b, off, rfl, hbl, hcl⟩ := HL.out.2 (by omega)
        have hd := hcl i (by omega)
        obtain ⟨d, hdd⟩ : ∃ d, d = D.dg N i := ⟨_, rfl⟩
        obtain ⟨M', hM'⟩ : ∃ M', M' = N / D.B ^ i := ⟨_, rfl⟩
        have hst : M * 1000000000 + d = M' := by rw [hM, hdd, hM']; exact dval_step
        have hle : M' ≤ N := by rw [hM']; exact Nat.div_le_self _ _
        rw [← hdd] at hd
        have HM := Lib.hid hM'
        clear hM hM' hdd hcl
        go_wp2
        go_round
        case rel => exact ⟨i, M', by omega, HM.out, by go_num, by go_num⟩
        case measure => simp [intOf]
end Go.Proofs.YtigplffpnbdkeaaGreatDoor
namespace Go.Proofs.YtigplffpnbdkeaaGreatDoor
open Go Go.RowKit

theorem parse_far : ∀ (l : List UInt8) (acc : Nat), (∀ c ∈ l, T.digit c = true) → Lib.parseUint10 acc l = .ok (T.numA acc l) ∨ Lib.parseUint10 acc l = .range
  | [], acc, _ => by simp [Lib.parseUint10, T.numA]
  | c :: l, acc, h => by
    have hd := T.digit_iff.1 (h c (List.mem_cons_self ..))
    have ih := parse_far l (acc * 10 + (c.toNat - 48)) (fun x hx => h x (List.mem_cons_of_mem _ hx))
    rw [T.numA_cons, Lib.parseUint10, if_pos hd]
    by_cases h1 : 1844674407370955162 ≤ acc
    · right; rw [if_pos h1]
    · by_cases h2 : 18446744073709551616 ≤ acc * 10 + (c.toNat - 48)
      · right; rw [if_neg h1, if_pos h2]
      · rw [if_neg h1, if_neg h2]; exact ih
theorem mag_far (u : Nat) : Lib.parseMag (Lib.decDigits u) = .ok u ∨ Lib.parseMag (Lib.decDigits u) = .range := by
  have e := T.num_decDigits u
  unfold T.num at e
  have hp := parse_far (Lib.decDigits u) 0 (T.decDigits_digit u)
  rw [e] at hp
  unfold Lib.parseMag
  rw [if_neg (T.decDigits_ne u)]
  exact hp
theorem atoi_far {n : Int} (h : n < -9223372036854775808 ∨ 9223372036854775807 < n) : Lib.atoiAll (Lib.itoa n) = .range := by
  by_cases hn : n < 0
  · rw [T.itoa_neg hn]
    unfold Lib.atoiAll
    have e : (45 : UInt8).toNat = 45 := rfl
    simp only [e]
    rw [if_pos (Or.inr trivial)]
    rcases mag_far n.natAbs with hm | hm
    · rw [hm]
      simp only
      rw [if_neg (by simp), if_pos ⟨trivial, by omega⟩]
    · rw [hm]
  · rw [T.itoa_nonneg hn]
    have hdg := T.decDigits_digit n.natAbs
    rcases mag_far n.natAbs with hm | hm
    all_goals
      cases hc : Lib.decDigits n.natAbs with
      | nil => exact absurd hc (T.decDigits_ne _)
      | cons c r =>
        rw [hc] at hm hdg
        have h3 := T.digit_iff.1 (hdg c (List.mem_cons_self ..))
        unfold Lib.atoiAll
        simp only
        rw [if_neg (by omega), hm]
        try simp only
        try rw [if_pos ⟨by omega, by omega⟩]

/-- strconv.ErrRange holds an error, or nil. -/
def ErrAt (w : World) : Prop := ∃ ev, w.cell? ⟨1, 0, none⟩ = some ev ∧ (ev = .nilIface ∨ ∃ te pe, ev = .iface te pe)
theorem ErrAt.below {w w' : World} (h : ErrAt w) (hb : Below w.heap.size w w') : ErrAt w' := by
  obtain ⟨ev, h1, h2⟩ := h
  exact ⟨ev, (hb.cell (Lib.lt_of_cell h1)).trans h1, h2⟩

set_option maxHeartbeats 800000 in
theorem small_bad {w : World} (s : ByteArray) (h : vld s.data.toList = false) :
    Calls Tryz.prog 102 #[.string s] w fun e w' => e = .returned (.tuple #[.int .i64 0, .bool false]) ∧ Below w.heap.size w w' := by
  have HV := Lib.hid h
  clear h
  go_enter Tryz.func102, Tryz.ntmps102
  go_wp2_with fail
  refine (valid_c s HV.out).mono ?_
  rintro e w1 ⟨rfl, rfl⟩
  go_wp2
  go_ret2
  exact ⟨rfl, Below.refl _ _⟩
theorem text_size {s : ByteArray} {n : Int} (hs : s.data.toList = Lib.itoa n) (hd : Lib.nDigits n.natAbs ≤ 400) : s.size ≤ 500 := by
  rw [Lib.size_eq, hs]
  by_cases hn : n < 0
  · rw [T.itoa_neg hn, List.length_cons, Lib.decDigits_length]; omega
  · rw [T.itoa_nonneg hn, Lib.decDigits_length]; omega
set_option maxHeartbeats 800000 in
set_option maxRecDepth 100000 in
theorem small_far {w : World} (he : ErrAt w) (s : ByteArray) {n : Int} (hs : s.data.toList = Lib.itoa n) (hd : Lib.nDigits n.natAbs ≤ 400) (h : n < -9223372036854775808 ∨ 9223372036854775807 < n) :
    Calls Tryz.prog 102 #[.string s] w fun e w' => e = .returned (.tuple #[.int .i64 0, .bool false]) ∧ Below w.heap.size w w' := by
  have hsz := text_size hs hd
  have hv : vld s.data.toList = true := by rw [hs]; exact vld_itoa hd
  have hat : Lib.atoiAll s.data.toList = .range := by rw [hs]; exact atoi_far h
  obtain ⟨ev, h1, h2⟩ := he
  have H := Lib.hid (And.intro hv (And.intro hat (And.intro h1 h2)))
  clear hv hat hs hd h h1 h2
  go_enter Tryz.func102, Tryz.ntmps102
  go_wp2_with fail
  refine (valid_c s H.out.1).mono ?_
  rintro e w1 ⟨rfl, rfl⟩
  go_wp2_with fail
  refine (Tryz.strconv_Atoi_range s (by omega) H.out.2.1 ev w H.out.2.2.1 H.out.2.2.2).mono ?_
  rintro e w1 ⟨N, rfl, hN, hc, hb⟩
  have HB := Lib.hid hb
  clear hb hc hN
  generalize Lib.atoiSat s.data.toList = sat
  go_wp2
  go_ret2
  exact ⟨rfl, HB.out⟩
set_option maxHeartbeats 800000 in
set_option maxRecDepth 100000 in
theorem small_near {w : World} {s : ByteArray} {n : Int} (hs : s.data.toList = Lib.itoa n) (h0 : -9223372036854775808 ≤ n) (h1 : n ≤ 9223372036854775807) :
    Calls Tryz.prog 102 #[.string s] w fun e w' => e = .returned (.tuple #[.int .i64 (if inSm n = true then n else 0), .bool (inSm n)]) ∧ Below w.heap.size w w' := by
  have hnd : Lib.nDigits n.natAbs ≤ 400 := Nat.le_trans (nDigits_le (k := 19) (by decide) (by omega)) (by decide)
  have hsz := text_size hs hnd
  have hv : vld s.data.toList = true := by rw [hs]; exact vld_itoa hnd
  have hat : Lib.atoiAll s.data.toList = .ok n := by rw [hs]; exact atoi_itoa h0 h1
  have H := Lib.hid (And.intro hv hat)
  clear hv hat hs hnd
  obtain ⟨ok, hok⟩ : ∃ ok, ok = inSm n := ⟨_, rfl⟩
  obtain ⟨r, hr⟩ : ∃ r, r = if inSm n = true then n else 0 := ⟨_, rfl⟩
  rw [← hr, ← hok]
  have HR := Lib.hid (And.intro hok hr)
  clear hok hr
  go_enter Tryz.func102, Tryz.ntmps102
  go_wp2_with fail
  refine (valid_c s H.out.1).mono ?_
  rintro e w1 ⟨rfl, rfl⟩
  go_wp2_with fail
  refine (Tryz.strconv_Atoi_ok s (by omega) n H.out.2 w).mono ?_
  rintro e w1 ⟨rfl, hw⟩
  have hb : Below w.heap.size w w1 := by
    rcases hw with rfl | ⟨t, rfl⟩
    · exact Below.refl _ _
    · exact bytesWorld_below _ _ _
  have HB := Lib.hid hb
  clear hb hw
  by_cases hl : n < -4611686018427387904
  · have HI := Lib.hid (show inSm n = false from decide_eq_false (by omega))
    go_wp2
    go_ret2
    exact ⟨by rw [HR.out.2, HR.out.1, HI.out]; rfl, HB.out⟩
  · by_cases hg : 4611686018427387904 < n
    · have HI := Lib.hid (show inSm n = false from decide_eq_false (by omega))
      go_wp2
      go_ret2
      exact ⟨by rw [HR.out.2, HR.out.1, HI.out]; rfl, HB.out⟩
    · have HI := Lib.hid (show inSm n = true from decide_eq_true (by omega))
      go_wp2
      go_ret2
      exact ⟨by rw [HR.out.2, HR.out.1, HI.out, if_pos rfl]; rfl, HB.out⟩
theorem small_tot (s : ByteArray) : ∃ k ok, (∀ w, ErrAt w → Calls Tryz.prog 102 #[.string s] w fun e w' => e = .returned (.tuple #[.int .i64 k, .bool ok]) ∧ Below w.heap.size w w') ∧
    (∀ w, Calls Tryz.prog 21 #[.string s] w fun e w' => e = .returned (.tuple #[.int .i64 k, .bool ok]) ∧ Below w.heap.size w w') := by
  rcases Bool.eq_false_or_eq_true (vld s.data.toList) with h | h
  · obtain ⟨n, hs, hd⟩ := itoa_of_vld h
    by_cases hn : -9223372036854775808 ≤ n ∧ n ≤ 9223372036854775807
    · exact ⟨_, _, fun w _ => small_near hs hn.1 hn.2, fun w => rsmall_ok s hs hd⟩
    · have h2 := fun w => rsmall_ok (w := w) s hs hd
      rw [show inSm n = false from decide_eq_false (by omega)] at h2
      exact ⟨_, _, fun w he => small_far he s hs hd (by omega), h2⟩
  · exact ⟨_, _, fun w _ => small_bad s h, fun w => rsmall_bad s h⟩
end Go.Proofs.YtigplffpnbdkeaaGreatDoor
