/- The law AcyclicDecides. -/
import Derived.Test.YtiakgcaflnpmeaaAcV
namespace Go.Proofs.Ytiakgcaflnpmeaa
open Go Go.RowKit

set_option linter.unusedSimpArgs false in
set_option maxHeartbeats 6400000 in
set_option maxRecDepth 100000 in
theorem law_adec {w : World} {A : Option Addr} {n c : Nat} (h : Nums w A n) (hc : n ≤ c) (hcm : c ≤ maxLen) :
    Calls Try.prog 5 #[.slice A n c] w fun e w' => e = .returned (.bool true) ∧ Below w.heap.size w w' := by
  have H := Lib.hid h
  clear h
  by_cases g0 : 300 < n
  · have g0i : (300 : Int) < (n : Int) := by omega
    go_enter Try.func5, Try.ntmps5
    go_wp2_with fail
    refine sane07.mono ?_
    rintro e w1 ⟨rfl, hb⟩
    go_wp2
    go_ret
    exact ⟨rfl, hb⟩
  · have g0i : ¬ (300 : Int) < (n : Int) := by omega
    go_enter Try.func5, Try.ntmps5
    go_wp2_with fail
    refine (new_any H.out hc hcm).mono ?_
    rintro e w1 ⟨g, rfl, hgl, hs, hb⟩
    have H1 := Lib.hid (And.intro hb (And.intro hgl hs))
    clear hb hgl hs
    go_wp2_with fail
    refine (relations_any H1.out.2.2).mono ?_
    rintro e w2 ⟨v, rfl, ps, ⟨V, rfl, hS⟩, hd, h1, h5, hcv, hs, hsr⟩
    have hv := (sch_valid hd h1 h5 hcv).1
    generalize schS ps = S at *
    have hB2 : Below w.heap.size w w2 := H1.out.1.trans (hsr.1.mono H1.out.2.1)
    clear hd h1 h5 hcv hs hsr ps
    have hg : Below w2.heap.size w2 (w2.alloc (.cells #[.slice V.A S.na V.ca, .slice V.R S.nr V.cr, .slice V.F S.nf V.cf, .int .i64 S.label] 28)) := (Below.refl _ _).alloc (Nat.le_refl _) _
    have H2 := Lib.hid (And.intro (Below.step hB2 hg) (And.intro (hS.below hg) (And.intro (Box4.new (w := w2) (S := S) (V := V)) hv)))
    clear hB2 hS hg hv
    go_upto_region 4 with fail
    generalize w2.alloc (.cells #[.slice V.A S.na V.ca, .slice V.R S.nr V.cr, .slice V.F S.nf V.cf, .int .i64 S.label] 28) = w3 at *
    generalize w2.heap.size = B at *
    have q0 := H2.out.2.2.1.c0
    have q1 := H2.out.2.2.1.c1
    have q2 := H2.out.2.2.1.c2
    have q3 := H2.out.2.2.1.c3
    go_wp2_with fail
    refine (Tree_any H2.out.2.1).mono ?_
    rintro e w4 ⟨v, rfl, ⟨A4, c4, rfl, hl4, hi4⟩, hb⟩
    have hg : Below w4.heap.size w4 (w4.alloc (.cells #[.slice A4 (treeL S).length c4] 42)) := (Below.refl _ _).alloc (Nat.le_refl _) _
    have hB := Below.step hb hg
    have H4 := Lib.hid (And.intro (Below.step H2.out.1 hB) (And.intro (H2.out.2.1.below hB) (And.intro (H2.out.2.2.1.below hB) (And.intro (hi4.below hg) (heap_alloc_new w4 (.cells #[.slice A4 (treeL S).length c4] 42))))))
    clear hb hg hB hi4 hl4 q0 q1 q2 q3
    go_upto_region 5 with fail
    have hsz5 : w4.heap.size < (w4.alloc (.cells #[.slice A4 (treeL S).length c4] 42)).heap.size := by simp
    generalize w4.alloc (.cells #[.slice A4 (treeL S).length c4] 42) = w5 at *
    generalize w4.heap.size = D at *
    have q0 := H4.out.2.2.1.c0
    have q1 := H4.out.2.2.1.c1
    have q2 := H4.out.2.2.1.c2
    have q3 := H4.out.2.2.1.c3
    go_wp2_with fail
    refine (Reduce_any H4.out.2.1).mono ?_
    rintro e w6 ⟨v, u, rfl, ⟨A6, c6, rfl, hl6, hi6⟩, ⟨A7, c7, rfl, hl7, hi7⟩, hb⟩
    have H6 := Lib.hid (And.intro (Below.step H4.out.1 hb) (And.intro (H4.out.2.1.below hb) (And.intro (H4.out.2.2.1.below hb) (And.intro (H4.out.2.2.2.1.below hb) (And.intro ((hb.block _ hsz5).trans H4.out.2.2.2.2) (And.intro hi6 hi7))))))
    have hszD : D < w6.heap.size := Nat.lt_of_lt_of_le hsz5 hb.size
    clear hb hi6 hi7 q0 q1 q2 q3
    go_upto_region 6 with fail
    have q0 := H6.out.2.2.1.c0
    have q1 := H6.out.2.2.1.c1
    have q2 := H6.out.2.2.1.c2
    have q3 := H6.out.2.2.1.c3
    have hval := H2.out.2.2.2
    have hsum : ((redO S).1.length : Int) + ((redO S).2.length : Int) = (S.nr : Int) := by
      have := redS_len S
      unfold redO
      rw [if_pos hval.check, castL_len, castL_len, List.length_map]
      omega
    have hcore : ((redO S).2.length : Int) = ((redS S).2.length : Int) := by unfold redO; rw [if_pos hval.check, castL_len]
    have hAc := Acyclic_any H6.out.2.1
    have htb := treeB_core hval
    have HV := Lib.hid hval
    have hcl := Closed_any (c := c6) (c' := c7) H6.out.2.1 hl6 hl7 H6.out.2.2.2.2.2.1 H6.out.2.2.2.2.2.2
    rw [red_closedB hval] at hcl
    have htk := tree_ok hval
    have hnr6 := hval.nr2
    obtain ⟨o, ho⟩ : ∃ o, o = (redO S).1.length := ⟨_, rfl⟩
    obtain ⟨k, hk⟩ : ∃ k, k = (redO S).2.length := ⟨_, rfl⟩
    have HL := Lib.hid (And.intro hl6 (And.intro hl7 (And.intro ho hk)))
    rw [← ho, ← hk] at hsum
    rw [← hk] at hcore
    rw [← ho, ← hk] at hcl ⊢
    rw [show (redS S).2.length = k by omega] at htb
    have HT := Lib.hid htk
    clear htk hval hcore ho hk hl6 hl7
    cases hq : treeB S with
    | true =>
      rw [hq] at htb hAc hcl
      have hk1 : k = 1 := of_decide_eq_true htb.symm
      have HQ := Lib.hid hq
      subst hk1
      clear htb hq
      go_wp2_with fail
      refine hAc.mono ?_
      rintro e w7 ⟨rfl, hb⟩
      have H7 := Lib.hid (And.intro (Below.step H6.out.1 hb) (And.intro (H6.out.2.1.below hb) (And.intro (H6.out.2.2.1.below hb) (And.intro (H6.out.2.2.2.1.below hb) (And.intro ((hb.block _ hszD).trans H6.out.2.2.2.2.1) (And.intro (H6.out.2.2.2.2.2.1.below hb) (H6.out.2.2.2.2.2.2.below hb)))))))
      have hszD7 : D < w7.heap.size := Nat.lt_of_lt_of_le hszD hb.size
      clear hb q0 q1 q2 q3 hAc hcl
      have q0 := H7.out.2.2.1.c0
      have q1 := H7.out.2.2.1.c1
      have q2 := H7.out.2.2.1.c2
      have q3 := H7.out.2.2.1.c3
      have t0 : w7.cell? ⟨D, 0, none⟩ = some (.slice A4 (treeL S).length c4) := cell_in H7.out.2.2.2.2.1 rfl
      have hck := tcheck_any (c := c4) H7.out.2.1 H7.out.2.2.2.1
      rw [HT.out HQ.out] at hck
      go_wp2_with fail
      refine hck.mono ?_
      rintro e w8 ⟨rfl, hb⟩
      have H8 := Lib.hid (And.intro (Below.step H7.out.1 hb) (And.intro (H7.out.2.1.below hb) (And.intro (H7.out.2.2.1.below hb) (And.intro (H7.out.2.2.2.2.2.1.below hb) (H7.out.2.2.2.2.2.2.below hb)))))
      clear hb q0 q1 q2 q3 t0 hck
      have q0 := H8.out.2.2.1.c0
      have q1 := H8.out.2.2.1.c1
      have q2 := H8.out.2.2.1.c2
      have q3 := H8.out.2.2.1.c3
      have hcl := Closed_any (c := c6) (c' := c7) H8.out.2.1 HL.out.1 HL.out.2.1 H8.out.2.2.2.1 H8.out.2.2.2.2
      rw [red_closedB HV.out, HQ.out, ← HL.out.2.2.1, ← HL.out.2.2.2] at hcl
      go_wp2_with fail
      refine hcl.mono ?_
      rintro e w9 ⟨rfl, hb⟩
      have H9 := Lib.hid (Below.step H8.out.1 hb)
      clear hb q0 q1 q2 q3 hcl
      go_wp2_with fail
      refine sane07.mono ?_
      rintro e wa ⟨rfl, hb⟩
      have HA := Lib.hid (Below.step H9.out hb)
      clear hb
      go_wp2
      go_ret
      exact ⟨rfl, HA.out⟩
    | false =>
      rw [hq] at htb hAc hcl
      have hk1 : ¬ k = 1 := of_decide_eq_false htb.symm
      have hkb : ((k : Int) == 1) = false := by rw [beq_eq_false_iff_ne]; omega
      have HQ := Lib.hid hq
      clear htb hq hk1
      go_wp2_with fail
      refine hAc.mono ?_
      rintro e w7 ⟨rfl, hb⟩
      have H7 := Lib.hid (And.intro (Below.step H6.out.1 hb) (And.intro (H6.out.2.1.below hb) (And.intro (H6.out.2.2.1.below hb) (And.intro (H6.out.2.2.2.2.2.1.below hb) (H6.out.2.2.2.2.2.2.below hb)))))
      clear hb q0 q1 q2 q3 hAc hcl
      have q0 := H7.out.2.2.1.c0
      have q1 := H7.out.2.2.1.c1
      have q2 := H7.out.2.2.1.c2
      have q3 := H7.out.2.2.1.c3
      have hcl := Closed_any (c := c6) (c' := c7) H7.out.2.1 HL.out.1 HL.out.2.1 H7.out.2.2.2.1 H7.out.2.2.2.2
      rw [red_closedB HV.out, HQ.out, ← HL.out.2.2.1, ← HL.out.2.2.2] at hcl
      go_wp2_with fail
      refine hcl.mono ?_
      rintro e w9 ⟨rfl, hb⟩
      have H9 := Lib.hid (Below.step H7.out.1 hb)
      clear hb q0 q1 q2 q3 hcl
      go_wp2_with fail
      refine sane07.mono ?_
      rintro e wa ⟨rfl, hb⟩
      have HA := Lib.hid (Below.step H9.out hb)
      clear hb
      go_wp2
      go_ret
      exact ⟨rfl, HA.out⟩
end Go.Proofs.Ytiakgcaflnpmeaa
