/- The reference's Small of texts. -/
import Derived.Test.YthibdbpgllhcpaaGreatDoorDCmpB
namespace Go.Proofs.YthibdbpgllhcpaaGreatDoor
open Go Go.RowKit

def inSm (n : Int) : Bool := decide (n.natAbs ≤ 4611686018427387904)
theorem dval_step {n i : Nat} : n / D.B ^ (i + 1) * 1000000000 + D.dg n i = n / D.B ^ i := by
  have h := Nat.div_add_mod (n / D.B ^ i) D.B
  rw [Nat.div_div_eq_div_mul, ← Nat.pow_succ, Nat.mul_comm] at h
  rw [← D.B_eq]
  exact h
set_option maxHeartbeats 800000 in
theorem rsmall_bad {w : World} (s : ByteArray) (h : vld s.data.toList = false) :
    Calls Tryz.prog 21 #[.string s] w fun e w' => e = .returned (.tuple #[.int .i64 0, .bool false]) ∧ Below w.heap.size w w' := by
  have HV := Lib.hid h
  clear h
  go_enter Tryz.func21, Tryz.ntmps21
  go_wp2_with fail
  refine (rvalid_b s HV.out).mono ?_
  rintro e w1 ⟨rfl, rfl⟩
  go_wp2
  go_ret2
  exact ⟨rfl, Below.refl _ _⟩
set_option maxHeartbeats 3200000 in
set_option maxRecDepth 100000 in
theorem rsmall_ok {w : World} (s : ByteArray) {n : Int} (hs : s.data.toList = Lib.itoa n) (hd : Lib.nDigits n.natAbs ≤ 400) :
    Calls Tryz.prog 21 #[.string s] w fun e w' => e = .returned (.tuple #[.int .i64 (if inSm n = true then n else 0), .bool (inSm n)]) ∧ Below w.heap.size w w' := by
  have hv : vld s.data.toList = true := by rw [hs]; exact vld_itoa hd
  have hP := lt_dten _ hd
  obtain ⟨a, ha⟩ : ∃ a, a = decide (n < 0) := ⟨_, rfl⟩
  obtain ⟨N, hN⟩ : ∃ N, N = n.natAbs := ⟨_, rfl⟩
  rw [← hN] at hP
  obtain ⟨cc, hcc⟩ : ∃ cc, cc = cmpI (N : Int) 4611686018427387904 := ⟨_, rfl⟩
  have H := Lib.hid (And.intro hs (And.intro hd (And.intro hv (And.intro hP (And.intro ha (And.intro hN hcc))))))
  clear hs hd hv hP ha hN hcc
  obtain ⟨ok, hok⟩ : ∃ ok, ok = inSm n := ⟨_, rfl⟩
  obtain ⟨r, hr⟩ : ∃ r, r = if inSm n = true then n else 0 := ⟨_, rfl⟩
  rw [← hr, ← hok]
  have HR := Lib.hid (And.intro hok hr)
  clear hok hr
  go_enter Tryz.func21, Tryz.ntmps21
  go_wp2_with fail
  refine (rvalid_b s H.out.2.2.1).mono ?_
  rintro e w1 ⟨rfl, rfl⟩
  go_wp2_with fail
  refine (rread_any s H.out.1 H.out.2.1).mono ?_
  rw [← H.out.2.2.2.2.1, ← H.out.2.2.2.2.2.1]
  rintro e w1 ⟨u, rfl, ⟨A, L, c, rfl, hl, hm, hc, hcm⟩, hb1⟩
  have hL := dlen_le hm H.out.2.2.2.1
  have H1 := Lib.hid (And.intro (show DSz w1 (.slice A L c) N from ⟨A, L, c, rfl, hl, hm, hc, hcm⟩) hb1)
  unfold maxLen at hcm
  clear hl hm hb1
  go_wp2_with fail
  refine (rof_any 4611686018427387904 (by omega) (by omega)).mono ?_
  rintro e w2 ⟨v, rfl, ⟨A2, L2, c2, rfl, hl, hm, hc2, hcm2⟩, hb2⟩
  rw [show decide ((4611686018427387904 : Int) < 0) = false from rfl]
  have hB2 : Below w.heap.size w w2 := (H1.out.2.alloc H1.out.2.size _).trans (hb2.mono (Nat.le_trans H1.out.2.size (by simp)))
  have hL2 := dlen_le (k := 3) hm (by rw [D.B_eq]; decide)
  have k0 : w2.heap[w1.heap.size]? = some (.cells #[.bool a, .slice A L c] 64 (0, 0)) := (hb2.block _ (by simp)).trans (heap_alloc_new w1 _)
  have hlt := lt_of_block k0
  have hN2 : DSz w2 (.slice A L c) N := (H1.out.1.alloc (.cells #[.bool a, .slice A L c] 64)).below hb2 (Nat.le_refl _)
  have hWb : Below w2.heap.size w2 (w2.alloc (.cells #[.bool false, .slice A2 L2 c2] 64)) := (Below.refl _ _).alloc (Nat.le_refl _) _
  have c0 : (w2.alloc (.cells #[.bool false, .slice A2 L2 c2] 64)).cell? ⟨w1.heap.size, 0, none⟩ = some (.bool a) := cell_at ((hWb.block _ hlt).trans k0) rfl
  have c1 : (w2.alloc (.cells #[.bool false, .slice A2 L2 c2] 64)).cell? ⟨w1.heap.size, 1, none⟩ = some (.slice A L c) := cell_at ((hWb.block _ hlt).trans k0) rfl
  have d1 : (w2.alloc (.cells #[.bool false, .slice A2 L2 c2] 64)).cell? ⟨w2.heap.size, 1, none⟩ = some (.slice A2 L2 c2) := cell_at (heap_alloc_new w2 _) rfl
  have HW := Lib.hid (And.intro (hN2.below hWb (Nat.le_refl _)) (And.intro (hl.below hWb (Nat.le_refl _)) (And.intro hm (And.intro (hB2.trans (hWb.mono hB2.size)) ((hWb.block _ hlt).trans k0)))))
  unfold maxLen at hcm2
  clear hl hm hb2 hB2 k0 hN2 hWb H1
  go_wp2_with fail
  generalize w2.alloc (.cells #[.bool false, .slice A2 L2 c2] 64) = W at *
  obtain ⟨A', L', c', e, hl, hm, _, _⟩ := HW.out.1
  obtain ⟨rfl, rfl, rfl⟩ := Value.slice.inj e
  have hbnd := dlen_le hm H.out.2.2.2.1
  refine (dsize_any c c2 hl HW.out.2.1 hm HW.out.2.2.1 (by omega) (by omega)).mono ?_
  rw [show cmpI (N : Int) ((4611686018427387904 : Int).natAbs : Nat) = cc from H.out.2.2.2.2.2.2.symm]
  rintro e w3 ⟨rfl, hd3⟩
  obtain ⟨kd, rfl⟩ := hd3
  have HB := Lib.hid (show Below w.heap.size w (W.drewN kd) from HW.out.2.2.2.1.trans ((Drawn.refl W).drewN kd |>.below _))
  have x0 : (W.drewN kd).cell? ⟨w1.heap.size, 0, none⟩ = some (.bool a) := c0
  have x1 : (W.drewN kd).cell? ⟨w1.heap.size, 1, none⟩ = some (.slice A L c) := c1
  have HL := Lib.hid (show DL (W.drewN kd) A L N from hl)
  clear e hl hm HW c0 c1 d1 hL2 hc2 hcm2 hlt
  generalize W.drewN kd = W at *
  by_cases hbig : 4611686018427387904 < N
  · have hc1 : cc = 1 := by rw [H.out.2.2.2.2.2.2]; unfold cmpI; rw [if_neg (by omega), if_pos (by omega)]
    subst hc1
    have hin : inSm n = false := decide_eq_false (by rw [← H.out.2.2.2.2.2.1]; omega)
    have HI := Lib.hid hin
    clear hin hbig
    go_wp2
    go_ret2
    exact ⟨by rw [HR.out.2, HR.out.1, HI.out]; rfl, HB.out⟩
  · have hc1 : cc ≤ 0 := by rw [H.out.2.2.2.2.2.2]; unfold cmpI; split <;> (try split) <;> omega
    have hin : inSm n = true := decide_eq_true (by rw [← H.out.2.2.2.2.2.1]; omega)
    have HI := Lib.hid hin
    clear hin
    go_wp2_with fail
    clear hc1
    go_loop [6, 7] (fun nv iv => ∃ k M : Nat, k ≤ L ∧ M = N / D.B ^ k ∧ iv = .int .i64 ((k : Int) - 1) ∧ nv = .int .i64 (M : Int)) (fun _ iv => (intOf iv + 1).toNat)
    case atStart => exact ⟨L, 0, Nat.le_refl _, (Nat.div_eq_of_lt HL.out.1).symm, rfl, rfl⟩
    case round =>
      obtain ⟨k, M, hk, hM, rfl, rfl⟩ := hrel
      by_cases h0 : k = 0
      · subst h0
        obtain rfl : M = N := by rw [hM]; simp
        have hnM : a = true → n = -(M : Int) := fun h => by
          have := of_decide_eq_true (H.out.2.2.2.2.1.symm.trans h)
          have := H.out.2.2.2.2.2.1
          omega
        have hnP : a = false → n = (M : Int) := fun h => by
          have := of_decide_eq_false (H.out.2.2.2.2.1.symm.trans h)
          have := H.out.2.2.2.2.2.1
          omega
        clear hM
        cases a
        · have hn := hnP rfl
          have HN := Lib.hid hn
          clear hn hnP hnM
          go_wp2
          go_ret2
          exact ⟨by rw [HR.out.2, HR.out.1, HI.out, if_pos rfl, HN.out]; rfl, HB.out⟩
        · have hn := hnM rfl
          have HN := Lib.hid hn
          clear hn hnP hnM
          go_wp2
          go_ret2
          exact ⟨by rw [HR.out.2, HR.out.1, HI.out, if_pos rfl, HN.out]; rfl, HB.out⟩
      · obtain ⟨i, rfl⟩ : ∃ i, k = i + 1 := ⟨k - 1, by omega⟩
        obtain ⟨b, off, rfl, hbl, hcl⟩ := HL.out.2 (by omega)
        have hd := hcl i (by omega)
        obtain ⟨d, hdd⟩ : ∃ d, d = D.dg N i := ⟨_, rfl⟩
        obtain ⟨M', hM'⟩ : ∃ M', M' = N / D.B ^ i := ⟨_, rfl⟩
        have hst : M * 1000000000 + d = M' := by rw [hM, hdd, hM']; exact dval_step
        have hle : M' ≤ N := by rw [hM']; exact Nat.div_le_self _ _
        rw [← hdd] at hd
        have HM := Lib.hid hM'
        clear hM hM' hdd hcl
        go_wp2
        go_round
        case rel => exact ⟨i, M', by omega, HM.out, by go_num, by go_num⟩
        case measure => simp [intOf]
end Go.Proofs.YthibdbpgllhcpaaGreatDoor
