/- The reference's Of: the number of an int. The reference's Text of a number. The reference's Read of a text. The reference's Give, and Text of whatever number; both. The reference's Add, Sub, Mul of texts. -/
import Derived.Test.YtjghgbfagjhdgaaGreatDoorDMem
import Derived.Test.YtjghgbfagjhdgaaGreatDoorDigits
import Derived.RegionTactic
import Derived.BigRegion
import Derived.Test.YtjghgbfagjhdgaaGreatDoorRefV
import Derived.Lib.MinMax
import Derived.Lib.Strings
import Derived.Test.YtjghgbfagjhdgaaGreatDoorDQuo
import Derived.Test.YtjghgbfagjhdgaaGreatDoorArith
namespace Go.Proofs.YtjghgbfagjhdgaaGreatDoor
open Go Go.RowKit

/-- A result's block, and behind it a number that is being made. -/
structure DPair (w0 w : World) (b : Bool) (v : Value) : Prop where
  b0 : ∃ (x : Bool) (A : Option Addr) (L c : Nat), w.heap[w0.heap.size]? = some (.cells #[.bool x, .slice A L c] 94 (0, 0))
  b1 : w.heap[w0.heap.size + 1]? = some (.cells #[.bool b, v] 94 (0, 0))
  below : Below w0.heap.size w0 w
section
variable {w0 w w' : World} {b : Bool} {v : Value}
theorem DPair.size (h : DPair w0 w b v) : w0.heap.size + 2 ≤ w.heap.size := by have := lt_of_block h.b1; omega
theorem DPair.c0 (h : DPair w0 w b v) : w.cell? ⟨w0.heap.size + 1, 0, none⟩ = some (.bool b) := by simp [World.cell?, h.b1]
theorem DPair.c1 (h : DPair w0 w b v) : w.cell? ⟨w0.heap.size + 1, 1, none⟩ = some v := by simp [World.cell?, h.b1]
theorem DPair.f (h : DPair w0 w b v) (i : Nat) : w.frozen? ⟨w0.heap.size + 1, i, none⟩ = false := by simp [World.frozen?, h.b1]
theorem DPair.rf (h : DPair w0 w b v) (i : Nat) : w.frozen? ⟨w0.heap.size, i, none⟩ = false := by
  obtain ⟨x, A, L, c, h2⟩ := h.b0
  simp [World.frozen?, h2]
theorem DPair.r0 (h : DPair w0 w b v) : ∃ x, w.cell? ⟨w0.heap.size, 0, none⟩ = some x := by
  obtain ⟨x, A, L, c, h2⟩ := h.b0
  exact ⟨.bool x, by simp [World.cell?, h2]⟩
theorem DPair.r1 (h : DPair w0 w b v) : ∃ x, w.cell? ⟨w0.heap.size, 1, none⟩ = some x := by
  obtain ⟨x, A, L, c, h2⟩ := h.b0
  exact ⟨.slice A L c, by simp [World.cell?, h2]⟩
theorem DPair.next (h : DPair w0 w b v) {B : Nat} (hb : Below B w w') (hB : w0.heap.size + 2 ≤ B) : DPair w0 w' b v := by
  obtain ⟨x, A, L, c, h2⟩ := h.b0
  exact ⟨⟨x, A, L, c, (hb.block _ (by omega)).trans h2⟩, (hb.block _ (by omega)).trans h.b1, h.below.trans (hb.mono (by omega))⟩
theorem DPair.op (h : DPair w0 w b v) (hb : Below w.heap.size w w') : DPair w0 w' b v := h.next hb h.size
theorem DPair.drew (h : DPair w0 w b v) : DPair w0 w.drew b v := ⟨h.b0, h.b1, h.below.drew⟩
theorem DPair.put1 (h : DPair w0 w b v) (v' : Value) : DPair w0 (w.setCell ⟨w0.heap.size + 1, 1, none⟩ v') b v' := by
  obtain ⟨x, A, L, c, hr⟩ := h.b0
  refine ⟨⟨x, A, L, c, ?_⟩, ?_, h.below.setCell (by simp) _⟩
  · exact (Below.heap_setCell _ _ _ _ (by simp)).trans hr
  · simp [World.setCell, Array.getElem?_modify, h.b1]
theorem DPair.put0 (h : DPair w0 w b v) (b' : Bool) : DPair w0 (w.setCell ⟨w0.heap.size + 1, 0, none⟩ (.bool b')) b' v := by
  obtain ⟨x, A, L, c, hr⟩ := h.b0
  refine ⟨⟨x, A, L, c, ?_⟩, ?_, h.below.setCell (by simp) _⟩
  · exact (Below.heap_setCell _ _ _ _ (by simp)).trans hr
  · simp [World.setCell, Array.getElem?_modify, h.b1]
/-- The result written. -/
theorem DPair.done (h : DPair w0 w b v) (s : Bool) (u : Value) : (dres w w0.heap.size s u).cell? ⟨w0.heap.size, 0, none⟩ = some (.bool s) ∧ (dres w w0.heap.size s u).cell? ⟨w0.heap.size, 1, none⟩ = some u ∧ Below w0.heap.size w0 (dres w w0.heap.size s u) := by
  obtain ⟨x, A', L', c', hr⟩ := h.b0
  refine ⟨?_, ?_, (h.below.setCell (Nat.le_refl _) _).setCell (Nat.le_refl _) _⟩
  · simp [dres, World.cell?, World.setCell, Array.getElem?_modify, hr]
  · simp [dres, World.cell?, World.setCell, Array.getElem?_modify, hr]
theorem DGrow.keep {base L n : Nat} {v : Value} (h : DGrow w base v L n) (hk : ∀ g, base ≤ g → w'.heap[g]? = w.heap[g]?) : DGrow w' base v L n := by
  refine ⟨⟨h.1.1, ?_⟩, h.2⟩
  rcases h.1.2 with h1 | ⟨g', cap', cur, h', h2, hg, h3⟩
  · exact .inl h1
  · exact .inr ⟨g', cap', cur, h', h2, (hk g' h2).trans hg, h3⟩
end
def dpair0 (w : World) (b : Bool) : World := (w.alloc (.cells #[.bool false, .slice none 0 0] 94)).alloc (.cells #[.bool b, .slice none 0 0] 94)
theorem dpair0_pair (w : World) (b : Bool) : DPair w (dpair0 w b) b (.slice none 0 0) := by
  have e : (dpair0 w b).heap = (w.heap.push (.cells #[.bool false, .slice none 0 0] 94)).push (.cells #[.bool b, .slice none 0 0] 94) := rfl
  refine ⟨⟨false, none, 0, 0, ?_⟩, ?_, ((Below.refl _ _).alloc (Nat.le_refl _) _).alloc (by simp) _⟩
  · rw [e, Array.getElem?_push, if_neg (by simp), Array.getElem?_push, if_pos rfl]
  · rw [e, Array.getElem?_push, if_pos (by simp)]

theorem dg_step {N M i r q : Nat} (hM : M = N / D.B ^ i) (hr : r = M % D.B) (hq : q = M / D.B) :
    q = N / D.B ^ (i + 1) ∧ ddigs i (N % D.B ^ i) ++ [.int .i64 ((r : Nat) : Int)] = ddigs (i + 1) (N % D.B ^ (i + 1)) := by
  subst hr hq hM
  refine ⟨D.div_step N i, ?_⟩
  rw [ddigs_snoc _ _ _ (D.mod_lt _ _) (Nat.mod_lt _ D.B_pos), D.mod_succ, D.mod_step, Nat.mul_comm (D.B ^ i)]
theorem sg_of (n : Int) : sg (decide (n < 0)) n.natAbs = n := by
  unfold sg
  by_cases h : n < 0
  · rw [decide_eq_true h, if_pos rfl]; omega
  · rw [decide_eq_false h, if_neg Bool.false_ne_true]; omega
theorem neg_mod (M : Nat) : Int.tmod (-(M : Int)) 1000000000 = -((M % D.B : Nat) : Int) := by
  rw [Int.neg_tmod, D.B_eq]; rfl
theorem neg_div (M : Nat) : Int.tdiv (-(M : Int)) 1000000000 = -((M / D.B : Nat) : Int) := by
  rw [Int.neg_tdiv, D.B_eq]; rfl
/-- An append to the number that is being made, and its store. -/
theorem DPair.grow {w w1 wr : World} {s : Bool} {v v' : Value} {i S N r : Nat} {o : Obj} (h : DPair w wr s v) (hg : DGrow wr (w.heap.size + 2) v i S)
    (he : ddigs i S ++ [.int .i64 (r : Int)] = ddigs (i + 1) N) (hN : N < D.B ^ (i + 1)) (hown : w1.ownsRow (w.heap.size + 2) 3 1 v' (i + 1) (ddigs i S ++ [.int .i64 (r : Int)])) (hgr : (wr.alloc o).grownBy w1 v.ownBlock) :
    DPair w w1 s v ∧ DGrow w1 (w.heap.size + 2) v' (i + 1) N ∧ ∃ g c, v' = .slice (some ⟨g, 0, none⟩) (i + 1) c := by
  have h2 := hg.step (w0 := wr) (Below.refl _ _) h.size he hN hown hgr
  refine ⟨h.next h2.2 (Nat.le_refl _), h2.1, ?_⟩
  rcases hown.2 with ⟨_, e⟩ | ⟨g, cap, cur, rfl, _⟩
  · omega
  · exact ⟨g, cap, rfl⟩
theorem DGrow.pair {w w1 : World} {v : Value} {i N : Nat} (hg : DGrow w1 (w.heap.size + 2) v i N) (j : Nat) (u : Value) : DGrow (w1.setCell ⟨w.heap.size + 1, j, none⟩ u) (w.heap.size + 2) v i N :=
  hg.keep fun g hb => Below.heap_setCell _ _ _ _ (by simp; omega)

set_option maxHeartbeats 1600000 in
set_option maxRecDepth 100000 in
theorem rof_fresh {w : World} (n : Int) (h1 : -9223372036854775808 ≤ n) (h2 : n ≤ 9223372036854775807) :
    Calls Tryz.prog 53 #[.int .i64 n] w fun e w' => ∃ s, e = .returned (.agg #[.bool (decide (n < 0)), s]) ∧ DSz w' s n.natAbs ∧ FreshV w.heap.size s ∧ Below w.heap.size w w' := by
  obtain ⟨ei, hi, hz, hs, hbs⟩ := info_parts info64
  have HI := Lib.hid (And.intro hi (And.intro hz (And.intro hs hbs)))
  clear hi hz hs hbs
  obtain ⟨s, hs⟩ : ∃ s, s = decide (n < 0) := ⟨_, rfl⟩
  have hD := dpair0_pair w s
  have H0 := Lib.hid (And.intro hD hs)
  clear hD
  go_enter Tryz.func53, Tryz.ntmps53
  go_wp2_with fail
  rw [← hs]
  clear hs
  change Code.wp _ _ _ _ (dpair0 w s)
  generalize dpair0 w s = W0 at *
  obtain ⟨N, hN⟩ : ∃ N, N = n.natAbs := ⟨_, rfl⟩
  have hnN : n = sg s N := by rw [H0.out.2, hN, sg_of]
  have hNb : N ≤ 9223372036854775808 := by omega
  have HN := Lib.hid (And.intro hN hnN)
  rw [hnN]
  clear hnN hN
  go_loopw [0] (fun nv wr => ∃ (i M : Nat) (v : Value), i ≤ 3 ∧ M = N / D.B ^ i ∧ nv = .int .i64 (sg s M) ∧ DPair w wr s v ∧ DGrow wr (w.heap.size + 2) v i (N % D.B ^ i) ∧ (i = 0 ∨ D.B ^ (i - 1) ≤ N)) (fun nv _ => (intOf nv).natAbs)
  case atStart => exact ⟨0, N, _, by omega, by simp, rfl, H0.out.1, by rw [Nat.pow_zero, Nat.mod_one]; exact DGrow.nil _ _, .inl rfl⟩
  case round =>
    obtain ⟨i, M, v, hi, hM, rfl, hp, hg, hmin⟩ := hrel
    by_cases h0 : M = 0
    · subst h0
      have e : sg s 0 = 0 := by cases s <;> rfl
      rw [e]
      have hNi : N < D.B ^ i := by
        rcases Nat.div_eq_zero_iff.1 hM.symm with h | h
        · have := D.pow_pos i; omega
        · exact h
      rw [Nat.mod_eq_of_lt hNi] at hg
      have hfv := hg.fresh
      obtain ⟨A1, L1, c1, rfl, h5, h6, h7, h8⟩ := hg.dv
      have hc0 := hp.c0
      have hc1 := hp.c1
      obtain ⟨v0, r0⟩ := hp.r0
      obtain ⟨v1, r1⟩ := hp.r1
      have rf0 := hp.rf 0
      have rf1 := hp.rf 1
      have hs1 : DSz wr (.slice A1 L1 c1) N := ⟨A1, L1, c1, rfl, h5, by
        rcases hmin with h | h
        · exact .inl (by omega)
        · by_cases h9 : L1 = 0
          · exact .inl h9
          · exact .inr (Nat.le_trans (D.pow_mono (by omega)) h), h7, h8⟩
      have HF := Lib.hid (And.intro (hp.done s (.slice A1 L1 c1)) (And.intro (hs1.far hp.b0 s (.slice A1 L1 c1)) hfv))
      clear hfv hp hg hs1 h5 h7 h8 hM hNi hmin
      go_wp2
      change bodyPost _ _ _ _ _ (dres wr w.heap.size s (.slice A1 L1 c1))
      obtain ⟨⟨z0, z1, z2⟩, z3, z4⟩ := HF.out
      generalize dres wr w.heap.size s (.slice A1 L1 c1) = W3 at *
      exact bodyPost_ret (v := .agg #[.bool s, .slice A1 L1 c1]) (by simp [results, Tryz.results53, go_sem, z0, z1]) rfl ⟨_, by rw [H0.out.2], by rw [← HN.out.1]; exact z3, z4.mono (by omega), z2⟩
    · have hM0 : 0 < M := by omega
      have hBi : D.B ^ i ≤ N := by
        rcases Nat.lt_or_ge N (D.B ^ i) with h | h
        · rw [Nat.div_eq_of_lt h] at hM; omega
        · exact h
      have hi2 : i ≤ 2 := by
        rcases Nat.lt_or_ge i 3 with h | h
        · omega
        · have h3 := D.pow_mono h
          have : 9223372036854775808 < D.B ^ 3 := by rw [D.B_eq]; decide
          omega
      have hMN : M ≤ N := by rw [hM]; exact Nat.div_le_self _ _
      have hMb : M ≤ 9223372036854775808 := by omega
      have c0 := hp.c0
      have c1 := hp.c1
      obtain ⟨r, hr⟩ : ∃ r, r = M % D.B := ⟨_, rfl⟩
      obtain ⟨q, hq⟩ : ∃ q, q = M / D.B := ⟨_, rfl⟩
      have hr9 : r ≤ 999999999 := by have := Nat.mod_lt M D.B_pos; rw [← hr, D.B_eq] at this; omega
      have hqM : q < M := by rw [hq]; exact Nat.div_lt_self hM0 D.B_one
      have hst := dg_step hM hr hq
      have hnm := neg_mod M
      have hnd := neg_div M
      rw [← hr] at hnm
      rw [← hq] at hnd
      have hpm : (M : Int) % 1000000000 = (r : Int) := by rw [hr, D.B_eq]; rfl
      have hpd : (M : Int) / 1000000000 = (q : Int) := by rw [hq, D.B_eq]; rfl
      obtain ⟨S, hS⟩ : ∃ S, S = N % D.B ^ i := ⟨_, rfl⟩
      rw [← hS] at hst hg
      have HR := Lib.hid (And.intro hp (And.intro hg (And.intro hst (And.intro hBi hS))))
      clear hp hg hst hmin hBi hM hr hq h0 hi hS
      cases s
      · rw [show sg false M = (M : Int) from rfl]
        have hMb2 : M ≤ 9223372036854775807 := by
          have h3 : ¬ n < 0 := of_decide_eq_false H0.out.2.symm
          have := HN.out.1
          omega
        clear hnm hnd
        go_wp2_with (at_builtin; refine wpList_append_own _ rfl (.tmp 17) (.tmp 19) 22 rfl (w.heap.size + 2) 3 ei (.int .i64 0) 1 8 Tryz.underlying22 HI.out.1 HI.out.2.1 HI.out.2.2.1 HI.out.2.2.2 rfl (by decide) v i (ddigs i S) rfl (HR.out.2.1.alloc _).1 ⟨wr.heap.size, 0, none⟩ 1 1 [.int .i64 (r : Int)] rfl rfl (by intro j u hj; match j, hj with | 0, hj => simp at hj; subst hj; simp [Addr.add]) (by intro u hu; simp at hu; subst hu; rfl) (by unfold maxLen; omega) (by omega) (by have := HR.out.1.size; simp; omega) ?_; intro v' w1 hown1 hgrow1 hnil; obtain ⟨hfp, hfg, gv, cv, rfl⟩ := HR.out.1.grow HR.out.2.1 HR.out.2.2.1.2 (D.mod_lt _ _) hown1 hgrow1; have f1 := hfp.f 1; have c1 := hfp.c1; have HF := Lib.hid (And.intro (hfp.put1 (.slice (some ⟨gv, 0, none⟩) (i + 1) cv)) (hfg.pair 1 (.slice (some ⟨gv, 0, none⟩) (i + 1) cv))); clear hfp hfg hown1 hgrow1 hnil)
        go_roundw
        case rel => exact ⟨i + 1, q, _, by omega, HR.out.2.2.1.1, rfl, HF.out.1, HF.out.2, .inr HR.out.2.2.2.1⟩
        case measure => simp [intOf]; omega
      · rw [show sg true M = -(M : Int) from rfl]
        clear hpm hpd
        by_cases hr0 : r = 0
        · subst hr0
          have hnm0 : Int.tmod (-(M : Int)) 1000000000 = 0 := hnm
          clear hnm
          go_wp2_with (at_builtin; refine wpList_append_own _ rfl (.tmp 17) (.tmp 19) 22 rfl (w.heap.size + 2) 3 ei (.int .i64 0) 1 8 Tryz.underlying22 HI.out.1 HI.out.2.1 HI.out.2.2.1 HI.out.2.2.2 rfl (by decide) v i (ddigs i S) rfl (HR.out.2.1.alloc _).1 ⟨wr.heap.size, 0, none⟩ 1 1 [.int .i64 ((0 : Nat) : Int)] rfl rfl (by intro j u hj; match j, hj with | 0, hj => simp at hj; subst hj; simp [Addr.add]) (by intro u hu; simp at hu; subst hu; rfl) (by unfold maxLen; omega) (by omega) (by have := HR.out.1.size; simp; omega) ?_; intro v' w1 hown1 hgrow1 hnil; obtain ⟨hfp, hfg, gv, cv, rfl⟩ := HR.out.1.grow HR.out.2.1 HR.out.2.2.1.2 (D.mod_lt _ _) hown1 hgrow1; have f1 := hfp.f 1; have c1 := hfp.c1; have HF := Lib.hid (And.intro (hfp.put1 (.slice (some ⟨gv, 0, none⟩) (i + 1) cv)) (hfg.pair 1 (.slice (some ⟨gv, 0, none⟩) (i + 1) cv))); clear hfp hfg hown1 hgrow1 hnil)
          go_roundw
          case rel => exact ⟨i + 1, q, _, by omega, HR.out.2.2.1.1, rfl, HF.out.1, HF.out.2, .inr HR.out.2.2.2.1⟩
          case measure => simp [intOf]; omega
        · have hrp : 0 < r := by omega
          clear hr0
          go_wp2_with (at_builtin; refine wpList_append_own _ rfl (.tmp 17) (.tmp 19) 22 rfl (w.heap.size + 2) 3 ei (.int .i64 0) 1 8 Tryz.underlying22 HI.out.1 HI.out.2.1 HI.out.2.2.1 HI.out.2.2.2 rfl (by decide) v i (ddigs i S) rfl (HR.out.2.1.alloc _).1 ⟨wr.heap.size, 0, none⟩ 1 1 [.int .i64 (r : Int)] rfl rfl (by intro j u hj; match j, hj with | 0, hj => simp at hj; subst hj; simp [Addr.add]) (by intro u hu; simp at hu; subst hu; rfl) (by unfold maxLen; omega) (by omega) (by have := HR.out.1.size; simp; omega) ?_; intro v' w1 hown1 hgrow1 hnil; obtain ⟨hfp, hfg, gv, cv, rfl⟩ := HR.out.1.grow HR.out.2.1 HR.out.2.2.1.2 (D.mod_lt _ _) hown1 hgrow1; have f1 := hfp.f 1; have c1 := hfp.c1; have HF := Lib.hid (And.intro (hfp.put1 (.slice (some ⟨gv, 0, none⟩) (i + 1) cv)) (hfg.pair 1 (.slice (some ⟨gv, 0, none⟩) (i + 1) cv))); clear hfp hfg hown1 hgrow1 hnil)
          go_roundw
          case rel => exact ⟨i + 1, q, _, by omega, HR.out.2.2.1.1, rfl, HF.out.1, HF.out.2, .inr HR.out.2.2.2.1⟩
          case measure => simp [intOf]; omega
theorem rof_any {w : World} (n : Int) (h1 : -9223372036854775808 ≤ n) (h2 : n ≤ 9223372036854775807) :
    Calls Tryz.prog 53 #[.int .i64 n] w fun e w' => ∃ s, e = .returned (.agg #[.bool (decide (n < 0)), s]) ∧ DSz w' s n.natAbs ∧ Below w.heap.size w w' :=
  (rof_fresh n h1 h2).mono fun _ _ ⟨s, he, hs, _, hb⟩ => ⟨s, he, hs, hb⟩
end Go.Proofs.YtjghgbfagjhdgaaGreatDoor
namespace Go.Proofs.YtjghgbfagjhdgaaGreatDoor
open Go Go.RowKit

/-- v is a row of bytes of the call's own, from block base on. -/
def BGrow (w : World) (base : Nat) (v : Value) (l : List UInt8) : Prop := w.ownsRow base 5 1 v l.length (l.map byt)
section
variable {w w' : World} {base g cap m : Nat} {l : List UInt8}
theorem BGrow.own (h : BGrow w base (.slice (some ⟨g, 0, none⟩) m cap) l) (hm : m = l.length) : OwnBytes w g cap l := by
  subst hm
  refine ⟨h.1, ?_⟩
  rcases h.2 with ⟨h', _⟩ | ⟨g', cap', cur, h', _, h2⟩
  · simp at h'
  · exact .inr ⟨g', cap', cur, h', by simp only [Value.slice.injEq, Option.some.injEq, Addr.mk.injEq, and_true] at h'; omega, h2⟩
theorem BGrow.ge (h : BGrow w base (.slice (some ⟨g, 0, none⟩) m cap) l) : base ≤ g := by
  rcases h.2 with ⟨h', _⟩ | ⟨g', cap', cur, h', h2, _⟩
  · simp at h'
  · simp only [Value.slice.injEq, Option.some.injEq, Addr.mk.injEq, and_true] at h'; omega
theorem BGrow.shape {v : Value} (h : BGrow w base v l) (h0 : 0 < l.length) : ∃ g cap, v = .slice (some ⟨g, 0, none⟩) l.length cap ∧ l.length ≤ cap ∧ cap ≤ maxLen := by
  rcases h.2 with ⟨h', e⟩ | ⟨g', cap', cur, h', h2, h3, h4, h5, _⟩
  · omega
  · exact ⟨g', cap', h', h4, h5⟩
theorem BGrow.cut {c : UInt8} (h : BGrow w base (.slice (some ⟨g, 0, none⟩) (m + 1) cap) (l ++ [c])) (hm : m = l.length) : BGrow w base (.slice (some ⟨g, 0, none⟩) m cap) l := by
  subst hm
  refine ⟨by simp, ?_⟩
  rcases h.2 with ⟨h', _⟩ | ⟨g', cap', cur, h', hb, hg, h1, h2, h3, h4⟩
  · simp at h'
  · simp only [Value.slice.injEq, Option.some.injEq, Addr.mk.injEq, and_true] at h'
    obtain ⟨rfl, _, rfl⟩ := h'
    refine .inr ⟨g, cap, cur, rfl, hb, hg, by simp at h1; omega, h2, h3, ?_⟩
    have h5 := congrArg (List.take l.length) h4
    rw [List.take_take, List.map_append] at h5
    simp at h5
    rw [Nat.mul_one]
    exact h5
theorem BGrow.keep {v : Value} (h : BGrow w base v l) (hk : ∀ g, base ≤ g → w'.heap[g]? = w.heap[g]?) : BGrow w' base v l := by
  refine ⟨h.1, ?_⟩
  rcases h.2 with h1 | ⟨g', cap', cur, h', h2, hg, h3⟩
  · exact .inl h1
  · exact .inr ⟨g', cap', cur, h', h2, (hk g' h2).trans hg, h3⟩
theorem BGrow.ownBase {v : Value} (h : BGrow w base v l) : ∀ k, v.ownBlock = some k → base ≤ k := by
  intro k hk
  rcases h.2 with ⟨h1, _⟩ | ⟨g, cap, cur, rfl, h2, _⟩
  · subst h1; cases hk
  · obtain rfl : g = k := Option.some.inj hk
    exact h2
theorem BGrow.step {w0 w1 : World} {v v' : Value} {o : Obj} {c : UInt8} (h : BGrow w base v l) (hB : Below base w0 w) (hsz : base ≤ w.heap.size)
    (hown : w1.ownsRow base 5 1 v' (l.length + 1) (l.map byt ++ [byt c])) (hg : (w.alloc o).grownBy w1 v.ownBlock) : BGrow w1 base v' (l ++ [c]) ∧ Below base w0 w1 := by
  refine ⟨?_, (hB.alloc hsz o).grown hg (Nat.le_trans hsz ((Below.refl w.heap.size w).alloc (Nat.le_refl _) o).size) h.ownBase⟩
  unfold BGrow
  rw [List.length_append, List.map_append]
  exact hown
end
theorem byt_low (z i k q : Nat) (hk : k < 9) (hq : q = D.dg z i / 10 ^ k) : Value.int .u8 (48 + (q : Int) % 10) = byt (T.low z (9 * i + k)) := by
  have h1 := T.low_nat z (9 * i + k)
  have h2 := D.dg_ten z i k hk
  rw [← hq] at h2
  unfold byt
  rw [h1, ← h2]
  rfl
set_option maxHeartbeats 400000 in
set_option maxRecDepth 100000 in
theorem rtext_zero {w : World} (s : Bool) (A : Option Addr) (c : Nat) :
    Calls Tryz.prog 185 #[.agg #[.bool s, .slice A 0 c]] w fun e w' => e = .returned (.string ⟨#[48]⟩) ∧ Below w.heap.size w w' := by
  have hB : Below w.heap.size w (w.alloc (.cells #[.bool s, .slice A 0 c] 94)) := (Below.refl _ _).alloc (Nat.le_refl _) _
  have HB := Lib.hid hB
  clear hB
  go_enter Tryz.func185, Tryz.ntmps185
  go_wp2
  go_ret
  exact ⟨rfl, HB.out⟩

set_option maxHeartbeats 1600000 in
set_option maxRecDepth 100000 in
theorem rtext_core {w : World} {A : Option Addr} {L c z : Nat} {s : Bool} (hl : DL w A L z) (hm : D.B ^ (L - 1) ≤ z) (h0 : 0 < L) (hL : L ≤ 20000) (hc : L ≤ c) (hcm : c ≤ 9223372036854775807) :
    Calls Tryz.prog 185 #[.agg #[.bool s, .slice A L c]] w fun e w' => e = .returned (.string ⟨((if s = true then [45] else []) ++ Lib.decDigits z).toArray⟩) ∧ Below w.heap.size w w' := by
  obtain ⟨ei, hi, hz, hs, hbs⟩ := info_parts info8
  have HI := Lib.hid (And.intro hi (And.intro hz (And.intro hs hbs)))
  clear hi hz hs hbs
  have hB : Below w.heap.size w (w.alloc (.cells #[.bool s, .slice A L c] 94)) := (Below.refl _ _).alloc (Nat.le_refl _) _
  have hc0 : (w.alloc (.cells #[.bool s, .slice A L c] 94)).cell? ⟨w.heap.size, 0, none⟩ = some (.bool s) := by go_cell
  have hc1 : (w.alloc (.cells #[.bool s, .slice A L c] 94)).cell? ⟨w.heap.size, 1, none⟩ = some (.slice A L c) := by go_cell
  have hsz : (w.alloc (.cells #[.bool s, .slice A L c] 94)).heap.size = w.heap.size + 1 := by simp
  have H := Lib.hid (And.intro hB (And.intro (hl.below hB (Nat.le_refl _)) (And.intro hc0 (And.intro hc1 (And.intro hsz hm)))))
  clear hB hc0 hc1 hsz hl hm
  have hL0 : ((L : Int) == 0) = false := by rw [beq_eq_false_iff_ne]; omega
  go_enter Tryz.func185, Tryz.ntmps185
  go_wp2_with fail
  generalize w.alloc (.cells #[.bool s, .slice A L c] 94) = W0 at *
  go_loopw [3, 4] (fun bv iv wr => ∃ i : Nat, i ≤ L ∧ iv = .int .i64 (i : Int) ∧ BGrow wr (w.heap.size + 1) bv (T.lows z (9 * i)) ∧ Below (w.heap.size + 1) W0 wr) (fun _ iv _ => L - (intOf iv).toNat)
  case atStart => exact ⟨0, by omega, rfl, ⟨rfl, .inl ⟨rfl, rfl⟩⟩, Below.refl _ _⟩
  case round =>
    obtain ⟨i, hi, rfl, hg, hb⟩ := hrel
    have hc1 := (hb.cell (p := ⟨w.heap.size, 1, none⟩) (by simp)).trans H.out.2.2.2.1
    by_cases hlt : i < L
    · have hl2 := H.out.2.1.below hb (by have := H.out.2.2.2.2.1; omega)
      obtain ⟨bx, ox, rfl, hbx, hcx0⟩ := hl2.at_ hlt
      have hcx := hcx0 i hlt
      obtain ⟨n, hn⟩ : ∃ n, n = D.dg z i := ⟨_, rfl⟩
      have hn9 : n ≤ 999999999 := by rw [hn]; exact D.dg_le z i
      rw [← hn] at hcx
      have HR := Lib.hid (And.intro hg (And.intro hb hn))
      clear hg hb hl2 hcx0 hbx hn
      go_wp2_with fail
      obtain ⟨wo, rfl⟩ : ∃ wo : World, wo = wr := ⟨_, rfl⟩
      go_loopw [3, 5, 6] (fun bv nv kv wr => ∃ k : Nat, k ≤ 9 ∧ kv = .int .i64 (k : Int) ∧ nv = .int .i64 ((n / 10 ^ k : Nat) : Int) ∧ BGrow wr (w.heap.size + 1) bv (T.lows z (9 * i + k)) ∧ Below (w.heap.size + 1) W0 wr) (fun _ _ kv _ => 9 - (intOf kv).toNat)
      case atStart => exact ⟨0, by omega, rfl, by simp, HR.out.1, HR.out.2.1⟩
      case round =>
        obtain ⟨k, hk, rfl, rfl, hg, hb⟩ := hrel
        by_cases hk9 : k < 9
        · obtain ⟨q, hq⟩ : ∃ q, q = n / 10 ^ k := ⟨_, rfl⟩
          have hq9 : q ≤ 999999999 := by rw [hq]; exact Nat.le_trans (Nat.div_le_self _ _) hn9
          have hbt := byt_low z i k q hk9 (by rw [hq, HR.out.2.2])
          have hqs : q / 10 = n / 10 ^ (k + 1) := by rw [hq, Nat.pow_succ, ← Nat.div_div_eq_div_mul]
          rw [← hq]
          have hlen := T.lows_length z (9 * i + k)
          have hls := T.lows_succ z (9 * i + k)
          obtain ⟨ls, hls0⟩ : ∃ ls, ls = T.lows z (9 * i + k) := ⟨_, rfl⟩
          rw [← hls0] at hg hlen hls
          have hln : ls.length ≤ 1000000 := by omega
          have HG := Lib.hid (And.intro hg (And.intro hb (And.intro hbt (And.intro hqs hls))))
          clear hg hb hbt hqs hq hls hls0 hlen
          go_wp2_with (at_builtin; refine wpList_append_own _ rfl (.tmp 29) (.tmp 34) 66 rfl (w.heap.size + 1) 5 ei (.int .u8 0) 1 1 Tryz.underlying66 HI.out.1 HI.out.2.1 HI.out.2.2.1 HI.out.2.2.2 rfl (by decide) _ ls.length (ls.map byt) rfl (World.ownsRow.alloc HG.out.1 _) ⟨wr.heap.size, 0, none⟩ 1 1 [.int .u8 (48 + (q : Int) % 10)] rfl rfl (by intro j u hj; match j, hj with | 0, hj => simp at hj; subst hj; simp [Addr.add]) (by intro u hu; simp at hu; subst hu; rfl) (by unfold maxLen; omega) (by omega) (by have := HG.out.2.1.size; have := H.out.2.2.2.2.1; simp; omega) ?_; intro v' w1 hown1 hgrow1 hnil)
          rw [HG.out.2.2.1] at hown1
          have hfin := HG.out.1.step HG.out.2.1 (by have := HG.out.2.1.size; have := H.out.2.2.2.2.1; omega) hown1 hgrow1
          rw [← HG.out.2.2.2.2] at hfin
          have HF := Lib.hid hfin
          clear hfin hown1 hgrow1 hnil
          go_roundw
          case rel => exact ⟨k + 1, by omega, by go_num, by rw [← HG.out.2.2.2.1]; rfl, HF.out.1, HF.out.2⟩
          case measure => simp [intOf]; omega
        · obtain rfl : k = 9 := by omega
          rw [show 9 * i + 9 = 9 * (i + 1) by omega] at hg
          have HG := Lib.hid (And.intro hg hb)
          clear hg hb
          go_wp2
          go_roundw
          case rel => exact ⟨i + 1, by omega, by go_num, HG.out.1, HG.out.2⟩
          case measure => simp [intOf]; omega
    · obtain rfl : i = L := by omega
      have hlen := T.lows_length z (9 * i)
      obtain ⟨g, cap, rfl, hgc, hgm⟩ := hg.shape (by omega)
      rw [hlen] at hg hgc ⊢
      have hz10 : z < 10 ^ (9 * i) := by rw [D.ten_lt]; exact H.out.2.1.1
      have hz0 : 0 < z := Nat.lt_of_lt_of_le (D.pow_pos _) H.out.2.2.2.2.2
      unfold maxLen at hgm
      have HG := Lib.hid (And.intro hg (And.intro hb (And.intro hz10 hz0)))
      clear hg hb hz10 hz0 hlt hi hlen
      go_wp2_with fail
      obtain ⟨wo, rfl⟩ : ∃ wo : World, wo = wr := ⟨_, rfl⟩
      go_loopw [3] (fun bv wr => ∃ m : Nat, m + 1 ≤ 9 * i ∧ bv = .slice (some ⟨g, 0, none⟩) (m + 1) cap ∧ BGrow wr (w.heap.size + 1) (.slice (some ⟨g, 0, none⟩) (m + 1) cap) (T.lows z (m + 1)) ∧ Below (w.heap.size + 1) W0 wr ∧ z < 10 ^ (m + 1)) (fun bv _ => lenOf bv)
      case atStart => exact ⟨9 * i - 1, by omega, by rw [show 9 * i - 1 + 1 = 9 * i by omega], by rw [show 9 * i - 1 + 1 = 9 * i by omega]; exact HG.out.1, HG.out.2.1, by rw [show 9 * i - 1 + 1 = 9 * i by omega]; exact HG.out.2.2.1⟩
      case round =>
        obtain ⟨m, hm, rfl, hg, hb, hzm⟩ := hrel
        have hc0 := (hb.cell (p := ⟨w.heap.size, 0, none⟩) (by simp)).trans H.out.2.2.1
        have hcl := (hg.own (by rw [T.lows_length])).cell (j := m) (c := T.low z m) (by rw [T.lows_succ]; simp [T.lows_length])
        by_cases hlow : z < 10 ^ m
        · have hl0 : ((T.low z m).toNat : Int) = 48 := by rw [(D.low_zero hzm).2 hlow]; rfl
          rw [hl0] at hcl
          obtain ⟨m', rfl⟩ : ∃ m', m = m' + 1 := ⟨m - 1, by
            rcases Nat.eq_zero_or_pos m with h | h
            · subst h; have := HG.out.2.2.2; simp at hlow; omega
            · omega⟩
          rw [T.lows_succ] at hg
          have hg2 := hg.cut (by rw [T.lows_length])
          have HE := Lib.hid (And.intro hg2 (And.intro hb hlow))
          clear hg hg2 hb hzm hlow hl0
          go_wp2
          go_roundw
          case rel => exact ⟨m', by omega, rfl, HE.out.1, HE.out.2.1, HE.out.2.2⟩
          case measure => simp [lenOf]
        · have hl0 : (((T.low z m).toNat : Int) == 48) = false := by
            rw [beq_eq_false_iff_ne]
            intro h
            exact hlow ((D.low_zero hzm).1 (UInt8.toNat.inj (by have : (48 : UInt8).toNat = 48 := rfl; omega)))
          have hrev := D.lows_end hzm (Nat.le_of_not_lt hlow)
          have HE := Lib.hid (And.intro hg (And.intro hb hrev))
          clear hg hb hzm hlow hrev
          have hm9 : m ≤ 1000000 := by omega
          have hll := T.lows_length z (m + 1)
          obtain ⟨ls0, hls0⟩ : ∃ ls, ls = T.lows z (m + 1) := ⟨_, rfl⟩
          rw [← hls0] at HE hll
          clear hls0
          cases s
          focus
            go_wp2_with fail
            obtain ⟨g2, hg2⟩ : ∃ x, x = g := ⟨_, rfl⟩
            obtain ⟨cap2, hcap2⟩ : ∃ x, x = cap := ⟨_, rfl⟩
            obtain ⟨w2, hw2⟩ : ∃ x, x = wr := ⟨_, rfl⟩
            obtain ⟨n, hn⟩ : ∃ n, n = m + 1 := ⟨_, rfl⟩
            obtain ⟨ls, hls⟩ : ∃ x, x = ls0 := ⟨_, rfl⟩
            rw [show (m : Int) = (n : Int) - 1 by omega]
            rw [← hg2, ← hcap2, ← hw2, ← hn]
            have HB := Lib.hid (show OwnBytes w2 g2 cap2 ls ∧ Below (w.heap.size + 1) W0 w2 ∧ w.heap.size + 1 ≤ g2 ∧ ls.length = n ∧ n ≤ 1000002 ∧ 1 ≤ n ∧ ls.reverse = ([] : List UInt8) ++ Lib.decDigits z by
              rw [hg2, hcap2, hw2, hls, hn]
              exact ⟨HE.out.1.own (by omega), HE.out.2.1, HE.out.1.ge, hll, by omega, by omega, HE.out.2.2⟩)
            clear HE hcl hc0 hll hm9 hm hn hls hw2 hg2 hcap2 hl0
          rotate_left
          focus
            go_wp2_with (at_builtin; refine wpList_append_own _ rfl (.tmp 52) (.tmp 53) 66 rfl (w.heap.size + 1) 5 ei (.int .u8 0) 1 1 Tryz.underlying66 HI.out.1 HI.out.2.1 HI.out.2.2.1 HI.out.2.2.2 rfl (by decide) _ (m + 1) (ls0.map byt) rfl (by have h9 := World.ownsRow.alloc HE.out.1 (.cells #[.int .u8 45] 5); rw [hll] at h9; exact h9) ⟨wr.heap.size, 0, none⟩ 1 1 [.int .u8 45] rfl rfl (by intro j u hj; match j, hj with | 0, hj => simp at hj; subst hj; simp [Addr.add]) (by intro u hu; simp at hu; subst hu; rfl) (by unfold maxLen; omega) (by omega) (by have := HE.out.2.1.size; have := H.out.2.2.2.2.1; simp; omega) ?_; intro v' w2 hown1 hgrow1 hnil; have hown2 : w2.ownsRow (w.heap.size + 1) 5 1 v' (ls0.length + 1) (ls0.map byt ++ [byt 45]) := (by rw [hll]; exact hown1); have hfin := HE.out.1.step HE.out.2.1 (by have := HE.out.2.1.size; have := H.out.2.2.2.2.1; omega) hown2 hgrow1; obtain ⟨g2, cap2, rfl, hc2, hcm2⟩ := hfin.1.shape (by simp); obtain ⟨ls, hls⟩ : ∃ x, x = ls0 ++ [45] := ⟨_, rfl⟩; have hln : ls.length = m + 2 := (by rw [hls, List.length_append, hll]; rfl); rw [← hls] at hfin hc2; rw [← hls, hln]; rw [hln] at hc2; rw [hln] at hfin; obtain ⟨n, hn⟩ : ∃ n, n = m + 2 := ⟨_, rfl⟩; rw [← hn] at hfin hc2 hln ⊢; unfold maxLen at hcm2; have HB := Lib.hid (show OwnBytes w2 g2 cap2 ls ∧ Below (w.heap.size + 1) W0 w2 ∧ w.heap.size + 1 ≤ g2 ∧ ls.length = n ∧ n ≤ 1000002 ∧ 1 ≤ n ∧ ls.reverse = [45] ++ Lib.decDigits z from ⟨hfin.1.own (by omega), hfin.2, hfin.1.ge, hln, by omega, by omega, by rw [hls, List.reverse_append, HE.out.2.2]; rfl⟩); have hn2 : n ≤ 1000002 := (by omega); have hn1 : 1 ≤ n := (by omega); clear HE hfin hcl hc0 hll hm9 hm hn hls hl0 hown1 hown2 hgrow1 hnil hln)
          all_goals
            have hnn : 1 ≤ n ∧ n ≤ 1000002 := ⟨HB.out.2.2.2.2.2.1, HB.out.2.2.2.2.1⟩
            obtain ⟨hn1', hn2'⟩ := hnn
            obtain ⟨wo2, rfl⟩ : ∃ wo : World, wo = w2 := ⟨_, rfl⟩
            go_loopw [7, 8] (fun iv kv wr => ∃ i : Nat, i ≤ n ∧ iv = .int .i64 (i : Int) ∧ kv = .int .i64 ((n : Int) - 1 - i) ∧ OwnBytes wr g2 cap2 (rv ls i) ∧ Below (w.heap.size + 1) W0 wr ∧ 2 * i ≤ n + 1) (fun iv _ _ => n - (intOf iv).toNat)
            case atStart => exact ⟨0, Nat.zero_le _, rfl, by simp, by rw [rv_zero]; exact HB.out.1, HB.out.2.1, by omega⟩
            case round =>
              obtain ⟨i, hi, rfl, rfl, ho, hb, h2⟩ := hrel
              have hlen := HB.out.2.2.2.1
              by_cases hlt : 2 * i + 1 < n
              · obtain ⟨j, hj⟩ : ∃ j, j = ls.length - 1 - i := ⟨_, rfl⟩
                have hij : i < j := by omega
                have hjl : j < n := by omega
                have ej : ((n : Int) - 1 - i) = (j : Int) := by omega
                have hci := ho.cell (rv_get (show i < ls.length by omega))
                have hcj := ho.cell (rv_get (show j < ls.length by omega))
                rw [if_neg (by omega)] at hci hcj
                have hfi := ho.free i
                have hfj := ho.free j
                have R := (ho.set i (ls.getD j 0)).set j (ls.getD i 0)
                have hst := rv_step (show 2 * i + 1 < ls.length by omega)
                rw [← hj] at hst
                rw [hst] at R
                rw [ej]
                have HO := Lib.hid (And.intro R (And.intro hb (And.intro hj hlen)))
                clear ho hb hj R hst ej hlen
                obtain ⟨a, ha⟩ : ∃ a, a = ((ls.getD i 0).toNat : Int) := ⟨_, rfl⟩
                obtain ⟨b, hb⟩ : ∃ b, b = ((ls.getD j 0).toNat : Int) := ⟨_, rfl⟩
                rw [← ha] at hci HO
                rw [← hb] at hcj HO
                have HAB := Lib.hid (And.intro ha hb)
                clear ha hb
                have hg2w := HB.out.2.2.1
                go_wp2_with fail
                go_region
                go_wp2
                go_roundw
                case rel =>
                  refine ⟨i + 1, by omega, by go_num, ?_, HO.out.1, ?_, by omega⟩
                  · have h8 := HO.out.2.2.1
                    have h9 := HO.out.2.2.2
                    have e : (j : Int) - 1 = (n : Int) - 1 - ((i + 1 : Nat) : Int) := by omega
                    rw [e]
                  · exact ((HO.out.2.1.setCell hg2w _).setCell hg2w _).drew
                case measure => simp [intOf]; omega
              · have hre := rv_end (show ls.length ≤ 2 * i + 1 by omega)
                rw [hre] at ho
                have hcv := conv_own ho (show n = ls.reverse.length by rw [List.length_reverse, hlen]) 9 Tryz.underlying9
                have HO := Lib.hid (H.out.1.trans (hb.mono (Nat.le_succ _)))
                have hle : n ≤ 2 * i + 1 := by omega
                clear ho hb hre hlen hlt
                go_wp2
                go_ret
                exact ⟨by rw [HB.out.2.2.2.2.2.2]; rfl, HO.out⟩
end Go.Proofs.YtjghgbfagjhdgaaGreatDoor
namespace Go.Proofs.YtjghgbfagjhdgaaGreatDoor
open Go Go.RowKit

/-- What the digits from k up to j say. -/
def seg (t : ByteArray) (k j : Nat) : Nat := T.num ((t.data.toList.drop k).take (j - k))
theorem seg_start (t : ByteArray) (k : Nat) : seg t k k = 0 := by unfold seg; rw [Nat.sub_self]; rfl
theorem bsize (t : ByteArray) : t.data.toList.length = t.size := (Lib.size_eq t).symm
theorem seg_step (t : ByteArray) {k j : Nat} (hk : k ≤ j) (hj : j < t.size) : seg t k (j + 1) = 10 * seg t k j + (t[j].toNat - 48) := by
  unfold seg
  have hl : j - k < (t.data.toList.drop k).length := by rw [List.length_drop, bsize]; omega
  rw [show j + 1 - k = (j - k) + 1 by omega, List.take_succ_eq_append_getElem hl, T.num_snoc, List.getElem_drop]
  have e : t.data.toList[k + (j - k)]'(by rw [bsize]; omega) = t[j] := by
    simp only [show k + (j - k) = j by omega]
    rfl
  rw [e, Nat.mul_comm]
theorem seg_end (t : ByteArray) (k : Nat) : seg t k t.size = T.num (t.data.toList.drop k) := by
  unfold seg
  rw [List.take_of_length_le (by rw [List.length_drop, bsize]; exact Nat.le_refl _)]
theorem seg_lt {t : ByteArray} (h : ∀ c ∈ t.data.toList, T.digit c = true) {k j : Nat} (hj : j - k ≤ 8) : seg t k j ≤ 99999999 := by
  have h1 := T.num_lt ((t.data.toList.drop k).take (j - k)) (fun c hc => h c (List.mem_of_mem_drop (List.mem_of_mem_take hc)))
  have h2 : 10 ^ ((t.data.toList.drop k).take (j - k)).length ≤ 10 ^ 8 := Nat.pow_le_pow_right (by decide) (by rw [List.length_take]; omega)
  have : (10 : Nat) ^ 8 = 100000000 := by rfl
  unfold seg
  omega
theorem dig_at {t : ByteArray} (h : ∀ c ∈ t.data.toList, T.digit c = true) {j : Nat} (hj : j < t.size) : 48 ≤ t[j].toNat ∧ t[j].toNat ≤ 57 :=
  T.digit_iff.1 (h _ (by
    have : t[j] = t.data.toList[j]'(by rw [bsize]; exact hj) := rfl
    rw [this]; exact List.getElem_mem _))
/-- What is in front of the last chunk. -/
theorem front {t : ByteArray} (h : ∀ c ∈ t.data.toList, T.digit c = true) :
    (∀ c ∈ (t.extract 0 (t.size - 9)).data.toList, T.digit c = true) ∧ T.num (t.extract 0 (t.size - 9)).data.toList = T.num t.data.toList / D.B ∧ (t.extract 0 (t.size - 9)).size = t.size - 9 ∧
    T.num (t.data.toList.drop (t.size - 9)) = T.num t.data.toList % D.B := by
  have e : (t.extract 0 (t.size - 9)).data.toList = t.data.toList.take (t.size - 9) := by simp
  have hc := D.chunk h
  rw [bsize] at hc
  rw [e]
  refine ⟨fun c hc => h c (List.mem_of_mem_take hc), hc.1, ?_, hc.2⟩
  rw [← bsize, e, List.length_take, bsize]
  omega
set_option maxHeartbeats 3200000 in
set_option maxRecDepth 100000 in
theorem rread_fresh {w : World} (s : ByteArray) {z : Int} (hs : s.data.toList = Lib.itoa z) (hn : Lib.nDigits z.natAbs ≤ 400) :
    Calls Tryz.prog 132 #[.string s] w fun e w' => ∃ v, e = .returned (.agg #[.bool (decide (z < 0)), v]) ∧ DSz w' v z.natAbs ∧ FreshV w.heap.size v ∧ Below w.heap.size w w' := by
  obtain ⟨ei, hi, hz, hss, hbs⟩ := info_parts info64
  have HI := Lib.hid (And.intro hi (And.intro hz (And.intro hss hbs)))
  clear hi hz hss hbs
  have hd := dpair0_pair w false
  obtain ⟨u, hu⟩ : ∃ u, u = z.natAbs := ⟨_, rfl⟩
  have hdl : (Lib.decDigits u).length ≤ 400 := by rw [Lib.decDigits_length, hu]; exact hn
  have hdg := T.decDigits_digit u
  have hnum := T.num_decDigits u
  obtain ⟨sb, hsb⟩ : ∃ sb, sb = decide (z < 0) := ⟨_, rfl⟩
  have HSB := Lib.hid hsb
  by_cases hneg : z < 0
  focus
    have hsl : s.data.toList = 45 :: Lib.decDigits u := by rw [hs, T.itoa_neg hneg, hu]
    have hsz : 0 < s.size := by rw [← bsize, hsl]; simp
    have hs0 : ((s[0].toNat : Int) == 45) = true := by
      have e : s[0] = s.data.toList[0]'(by rw [bsize]; exact hsz) := rfl
      rw [e]
      simp [hsl]
    have hne1 : (!s.toList.isEmpty) = true := by rw [Lib.toList_data, hsl]; rfl
    have hne2 : ¬ s.toList = [] := by rw [Lib.toList_data, hsl]; simp
    obtain ⟨t0, ht0⟩ : ∃ t0, s.extract 1 s.size = t0 := ⟨_, rfl⟩
    have htl : t0.data.toList = Lib.decDigits u := by
      rw [← ht0, Lib.extract_data, hsl, List.drop_one, List.tail_cons]
      exact List.take_of_length_le (by rw [← bsize, hsl]; simp)
    have hsm : s.size ≤ 401 := by rw [← bsize, hsl]; simp; omega
    have hp0 := hd.put0 true
    have f0 := hd.f 0
    have c0 := hd.c0
    have hb : decide (z < 0) = true := decide_eq_true hneg
    have H := Lib.hid (And.intro htl (And.intro hdl (And.intro hdg (And.intro hnum (And.intro hu hb)))))
    have HD := Lib.hid hp0
    clear hs hsl htl hdl hdg hnum hu hneg hn hp0 hd hsb hb
    go_enter Tryz.func132, Tryz.ntmps132
    go_wp2_with fail
    change Code.wp _ _ _ _ (dpair0 w false)
    generalize dpair0 w false = W00 at *
    go_region
    go_wp2_with fail
    have HD := Lib.hid (show DPair w (W00.setCell ⟨w.heap.size + 1, 0, none⟩ (.bool true)).drew sb (.slice none 0 0) by
      rw [HSB.out, H.out.2.2.2.2.2]; exact HD.out.drew)
    generalize (W00.setCell ⟨w.heap.size + 1, 0, none⟩ (.bool true)).drew = W0 at *
    clear hsm f0 c0 hne1 hne2 hs0 ht0
  rotate_left
  focus
    have hsl : s.data.toList = Lib.decDigits u := by rw [hs, T.itoa_nonneg hneg, hu]
    have hsz : 0 < s.size := by rw [← bsize, hsl, Lib.decDigits_length]; exact Lib.nDigits_pos _
    have hs0 : ((s[0].toNat : Int) == 45) = false := by
      have hm : s[0] ∈ Lib.decDigits u := by
        rw [← hsl]
        have e : s[0] = s.data.toList[0]'(by rw [bsize]; exact hsz) := rfl
        rw [e]; exact List.getElem_mem _
      have h8 := (T.digit_iff.1 (hdg _ hm)).1
      clear hm
      rw [beq_eq_false_iff_ne]
      intro h
      have h9 : s[0].toNat = 45 := by exact_mod_cast h
      rw [h9] at h8
      exact absurd h8 (by decide)
    have hnl : s.toList ≠ [] := by
      rw [Lib.toList_data]
      intro h
      have := congrArg List.length h
      rw [bsize, List.length_nil] at this
      exact absurd hsz (by rw [this]; exact Nat.lt_irrefl 0)
    have hne1 : (!s.toList.isEmpty) = true := by
      cases h : s.toList with
      | nil => exact absurd h hnl
      | cons => rfl
    have hne2 : ¬ s.toList = [] := hnl
    have hb : decide (z < 0) = false := decide_eq_false hneg
    have hsm : s.size ≤ 401 := by rw [← bsize, hsl]; omega
    have H := Lib.hid (And.intro hsl (And.intro hdl (And.intro hdg (And.intro hnum (And.intro hu hb)))))
    have HD := Lib.hid (show DPair w (dpair0 w false) sb (.slice none 0 0) by rw [hsb, hb]; exact hd)
    clear hs hsl hdl hdg hnum hu hneg hn hd hsb hb hnl
    go_enter Tryz.func132, Tryz.ntmps132
    go_wp2_with fail
    change Code.wp _ _ _ _ (dpair0 w false)
    generalize dpair0 w false = W0 at *
    obtain ⟨t0, rfl⟩ : ∃ t0, s = t0 := ⟨_, rfl⟩
    clear hsm hne1 hne2 hs0
  all_goals
    go_loopw [3] (fun sv wr => ∃ (i : Nat) (t : ByteArray) (A : Option Addr) (c : Nat), sv = .string t ∧ (∀ c ∈ t.data.toList, T.digit c = true) ∧ T.num t.data.toList = u / D.B ^ i ∧ (t.size + 9 * i ≤ 400 ∨ (t.size = 0 ∧ 9 * i ≤ 408)) ∧ DPair w wr sb (.slice A i c) ∧ DGrow wr (w.heap.size + 2) (.slice A i c) i (u % D.B ^ i)) (fun sv _ => match sv with | .string t => t.size | _ => 0)
    case atStart => exact ⟨0, _, none, 0, rfl, by rw [H.out.1]; exact H.out.2.2.1, by rw [H.out.1, H.out.2.2.2.1]; simp, .inl (by rw [← bsize, H.out.1]; have := H.out.2.1; omega), HD.out, by rw [Nat.pow_zero, Nat.mod_one]; exact DGrow.nil _ _⟩
    case round =>
      obtain ⟨i, t, A, c, rfl, htd, htn, hti, hp, hg⟩ := hrel
      by_cases h0 : t.size = 0
      · have hnil : t.data.toList = [] := List.eq_nil_of_length_eq_zero (by rw [bsize]; exact h0)
        rw [hnil, show T.num [] = 0 from rfl] at htn
        have hui : u < D.B ^ i := by
          rcases Nat.div_eq_zero_iff.1 htn.symm with h | h
          · have := D.pow_pos i; omega
          · exact h
        rw [Nat.mod_eq_of_lt hui] at hg
        have hfv := hg.fresh
        obtain ⟨A1, L1, cc1, e1, h5, h6, h7, h8⟩ := hg.dv
        injection e1 with e1 e2 e3
        subst e1 e2 e3
        have hc0 := hp.c0
        have hc1 := hp.c1
        have hi9 : i ≤ 100 := by omega
        have HR := Lib.hid (And.intro hp (And.intro h5 hfv))
        clear hfv hp hg h5 htd htn hti hnil hui
        go_wp2_with fail
        refine (trim_at sb HR.out.2.1 (by omega) h7).mono ?_
        rintro e w1 ⟨L2, hk2, rfl, hd2, hm2, hb1⟩
        have hs1 : DSz w1 (.slice A L2 c) u := ⟨A, L2, c, rfl, hd2, hm2, by omega, h8⟩
        have hfr2 : FreshV w.heap.size (.slice A L2 c) := fun A' L' c' e p hp => by
          injection e with e _ _
          have := HR.out.2.2 A _ c rfl p (e.trans hp)
          omega
        have hp1 := HR.out.1.op hb1
        obtain ⟨s0, hs0⟩ : ∃ s0, s0 = decide (sg sb u < 0) := ⟨_, rfl⟩
        rw [← hs0]
        have hs0' : s0 = decide (z < 0) := by rw [hs0, HSB.out, H.out.2.2.2.2.1, sg_of]
        obtain ⟨v0, r0⟩ := hp1.r0
        obtain ⟨v1, r1⟩ := hp1.r1
        have rf0 := hp1.rf 0
        have rf1 := hp1.rf 1
        have HF := Lib.hid (And.intro (hp1.done s0 (.slice A L2 c)) (And.intro (hs1.far hp1.b0 s0 (.slice A L2 c)) (And.intro hs0' hfr2)))
        clear hfr2 hd2 hm2 HR hs1 hp1 hb1 hs0 hs0' hc0 hc1
        go_wp2
        change bodyPost _ _ _ _ _ (dres w1 w.heap.size s0 (.slice A L2 c))
        obtain ⟨⟨z0, z1, z2⟩, z3, z4, z5⟩ := HF.out
        generalize dres w1 w.heap.size s0 (.slice A L2 c) = W3 at *
        exact bodyPost_ret (v := .agg #[.bool s0, .slice A L2 c]) (by simp [results, Tryz.results132, go_sem, z0, z1]) rfl ⟨_, by rw [z4], by rw [← H.out.2.2.2.2.1]; exact z3, z5, z2⟩
      · have ht1 : 0 < t.size := by omega
        have hfr := front htd
        obtain ⟨k, hk⟩ : ∃ k, k = t.size - 9 := ⟨_, rfl⟩
        rw [← hk] at hfr
        obtain ⟨t', ht'⟩ : ∃ t', t.extract 0 k = t' := ⟨_, rfl⟩
        rw [ht'] at hfr
        have hmax : max (0 : Int) ((t.size : Int) - 9) = (k : Int) := by omega
        have hkt : k < t.size := by omega
        have hk9 : t.size ≤ k + 9 := by omega
        have htb : t.size ≤ 400 := by omega
        have hi9 : i ≤ 100 := by omega
        have hse := seg_end t k
        obtain ⟨r, hr⟩ : ∃ r, r = seg t k t.size := ⟨_, rfl⟩
        have hr2 : r = u / D.B ^ i % D.B := by rw [hr, hse, hfr.2.2.2, htn]
        have hr9 : r ≤ 999999999 := by
          have h7 := Nat.mod_lt (u / D.B ^ i) D.B_pos
          rw [← hr2, D.B_eq] at h7
          omega
        have hst := dg_step (N := u) (i := i) rfl hr2 rfl
        have htn' : T.num t'.data.toList = u / D.B ^ (i + 1) := by rw [hfr.2.1, htn, D.div_step]
        have hti' : t'.size + 9 * (i + 1) ≤ 400 ∨ (t'.size = 0 ∧ 9 * (i + 1) ≤ 408) := by rw [hfr.2.2.1]; omega
        obtain ⟨S, hS⟩ : ∃ S, S = u % D.B ^ i := ⟨_, rfl⟩
        rw [← hS] at hst hg
        have c1 := hp.c1
        have HR := Lib.hid (And.intro hp (And.intro hg (And.intro hst (And.intro hfr.1 (And.intro htn' (And.intro hti' (And.intro htd (And.intro hr hS))))))))
        have hlt' : t'.size < t.size := by rw [hfr.2.2.1, hk]; omega
        clear hp hg hst hfr htn' hti' htd hr hse hr2 htn hti h0 hk hS
        go_wp2_with fail
        clear hmax
        go_loop [6, 7] (fun nv jv => ∃ j : Nat, k ≤ j ∧ j ≤ t.size ∧ jv = .int .i64 (j : Int) ∧ nv = .int .i64 (seg t k j : Int)) (fun _ jv => t.size - (intOf jv).toNat)
        case atStart => exact ⟨k, Nat.le_refl _, by omega, rfl, by rw [seg_start]; rfl⟩
        case round =>
          obtain ⟨j, hj, hjt, rfl, rfl⟩ := hrel
          by_cases hlt : j < t.size
          · have hd1 := dig_at HR.out.2.2.2.2.2.2.1 hlt
            obtain ⟨hd48, hd57⟩ := hd1
            have hsl := seg_lt HR.out.2.2.2.2.2.2.1 (k := k) (j := j) (by omega)
            have hsp := seg_step t hj hlt
            obtain ⟨n, hn⟩ : ∃ n, n = seg t k j := ⟨_, rfl⟩
            rw [← hn] at hsl hsp ⊢
            have HS := Lib.hid hsp
            clear hsp hn
            go_wp2
            go_round
            case rel => exact ⟨j + 1, by omega, by omega, by go_num, by rw [HS.out]; congr 1; omega⟩
            case measure => simp [intOf]; omega
          · obtain rfl : j = t.size := by omega
            rw [← HR.out.2.2.2.2.2.2.2.1]
            clear hlt hj hjt
            go_wp2_with (at_builtin; refine wpList_append_own _ rfl (.tmp 43) (.tmp 45) 22 rfl (w.heap.size + 2) 3 ei (.int .i64 0) 1 8 Tryz.underlying22 HI.out.1 HI.out.2.1 HI.out.2.2.1 HI.out.2.2.2 rfl (by decide) (.slice A i c) i (ddigs i S) rfl (HR.out.2.1.alloc _).1 ⟨wr.heap.size, 0, none⟩ 1 1 [.int .i64 (r : Int)] rfl rfl (by intro j u hj; match j, hj with | 0, hj => simp at hj; subst hj; simp [Addr.add]) (by intro u hu; simp at hu; subst hu; rfl) (by unfold maxLen; omega) (by omega) (by have := HR.out.1.size; simp; omega) ?_; intro v' w1 hown1 hgrow1 hnil; obtain ⟨hfp, hfg, gv, cv, rfl⟩ := HR.out.1.grow HR.out.2.1 HR.out.2.2.1.2 (D.mod_lt _ _) hown1 hgrow1; have f1 := hfp.f 1; have c1 := hfp.c1; have HF := Lib.hid (And.intro (hfp.put1 (.slice (some ⟨gv, 0, none⟩) (i + 1) cv)) (hfg.pair 1 (.slice (some ⟨gv, 0, none⟩) (i + 1) cv))); clear hfp hfg hown1 hgrow1 hnil)
            go_roundw
            case rel => exact ⟨i + 1, t', _, _, rfl, HR.out.2.2.2.1, HR.out.2.2.2.2.1, HR.out.2.2.2.2.2.1, HF.out.1, HF.out.2⟩
            case measure => exact hlt'
theorem rread_any {w : World} (s : ByteArray) {z : Int} (hs : s.data.toList = Lib.itoa z) (hn : Lib.nDigits z.natAbs ≤ 400) :
    Calls Tryz.prog 132 #[.string s] w fun e w' => ∃ v, e = .returned (.agg #[.bool (decide (z < 0)), v]) ∧ DSz w' v z.natAbs ∧ Below w.heap.size w w' :=
  (rread_fresh s hs hn).mono fun _ _ ⟨s, he, hs, _, hb⟩ => ⟨s, he, hs, hb⟩
end Go.Proofs.YtjghgbfagjhdgaaGreatDoor
namespace Go.Proofs.YtjghgbfagjhdgaaGreatDoor
open Go Go.RowKit

theorem lt_dpow (n k : Nat) (h : Lib.nDigits n ≤ 9 * k) : n < D.B ^ k := by
  have h1 := Lib.lt_pow_nDigits n
  rw [D.B_ten]
  exact Nat.lt_of_lt_of_le h1 (Nat.pow_le_pow_right (by decide) h)
theorem lt_dten (n : Nat) (h : Lib.nDigits n ≤ 400) : n < D.B ^ 45 := lt_dpow n 45 (by omega)
theorem rtext_any {w : World} {v : Value} {z : Int} {k : Nat} (h : DBig w v z) (hz : z.natAbs < D.B ^ k) (hk : k ≤ 20000) :
    Calls Tryz.prog 185 #[v] w fun e w' => e = .returned (.string ⟨(Lib.itoa z).toArray⟩) ∧ Below w.heap.size w w' := by
  obtain ⟨A, L, c, rfl, hl, hm, hc, hcm, hLk⟩ := h.open_ hz
  have hzl := dlen_zero hm hl.1
  by_cases h0 : L = 0
  · subst h0
    have hz0 : z = 0 := by have := hzl.1 rfl; omega
    subst hz0
    exact (rtext_zero _ A c).mono fun e w' ⟨he, hb⟩ => ⟨by rw [he, T.itoa_nonneg (by omega)]; simp [Lib.decDigits], hb⟩
  · have hm' : D.B ^ (L - 1) ≤ z.natAbs := by
      rcases hm with h | h
      · exact absurd h h0
      · exact h
    refine (rtext_core (s := decide (z < 0)) hl hm' (by omega) (by omega) hc hcm).mono ?_
    rintro e w' ⟨rfl, hb⟩
    refine ⟨?_, hb⟩
    congr 4
    by_cases hn : z < 0
    · rw [decide_eq_true hn, if_pos rfl, T.itoa_neg hn]; rfl
    · rw [decide_eq_false hn, if_neg Bool.false_ne_true, T.itoa_nonneg hn]; rfl
set_option maxHeartbeats 800000 in
theorem rgive_any {w : World} {v : Value} {z : Int} {k : Nat} (h : DBig w v z) (hz : z.natAbs < D.B ^ k) (hk : k ≤ 20000) :
    Calls Tryz.prog 129 #[v] w fun e w' => e = .returned (give z) ∧ Below w.heap.size w w' := by
  have H := Lib.hid (And.intro h (And.intro hz hk))
  obtain ⟨A, L, c, rfl, _⟩ := h
  obtain ⟨s, hs⟩ : ∃ s, s = decide (z < 0) := ⟨_, rfl⟩
  rw [← hs] at H ⊢
  have hb0 : Below w.heap.size w (w.alloc (.cells #[.bool s, .slice A L c] 94)) := (Below.refl _ _).alloc (Nat.le_refl _) _
  have hc0 : (w.alloc (.cells #[.bool s, .slice A L c] 94)).cell? ⟨w.heap.size, 0, none⟩ = some (.bool s) := by go_cell
  have hc1 : (w.alloc (.cells #[.bool s, .slice A L c] 94)).cell? ⟨w.heap.size, 1, none⟩ = some (.slice A L c) := by go_cell
  have hsz0 : w.heap.size < (w.alloc (.cells #[.bool s, .slice A L c] 94)).heap.size := by simp
  have HC := Lib.hid (And.intro hc0 (And.intro hc1 (And.intro hsz0 (And.intro hb0 (H.out.1.below hb0 (Nat.le_refl _))))))
  clear hc0 hc1 hsz0 hb0 hz hk hs
  obtain ⟨n, hn⟩ : ∃ n, n = Lib.nDigits z.natAbs := ⟨_, rfl⟩
  have HN := Lib.hid hn
  unfold give
  rw [← hn]
  clear hn
  by_cases hd : n ≤ 400
  · rw [if_pos hd]
    go_enter Tryz.func129, Tryz.ntmps129
    go_wp2_with fail
    generalize w.alloc (.cells #[.bool s, .slice A L c] 94) = W0 at *
    refine (rdigits_any HC.out.2.2.2.2 H.out.2.1 (by have := H.out.2.2; omega)).mono ?_
    rw [← HN.out]
    rintro e w1 ⟨rfl, hb1⟩
    have hc0 := (hb1.cell HC.out.2.2.1).trans HC.out.1
    have hc1 := (hb1.cell HC.out.2.2.1).trans HC.out.2.1
    have H1 := Lib.hid (And.intro (HC.out.2.2.2.2.below hb1 (Nat.le_refl _)) (HC.out.2.2.2.1.trans (hb1.mono HC.out.2.2.2.1.size)))
    clear hb1
    go_wp2_with fail
    refine (rtext_any H1.out.1 H.out.2.1 H.out.2.2).mono ?_
    rintro e w2 ⟨rfl, hb2⟩
    have H2 := Lib.hid (H1.out.2.trans (hb2.mono H1.out.2.size))
    clear hb2 hc0 hc1
    go_wp2
    go_ret2
    exact ⟨rfl, H2.out⟩
  · rw [if_neg hd]
    have hd' : 400 < n := by omega
    have hnb : n ≤ 9000000 := by
      rw [HN.out]
      have h1 : z.natAbs < 10 ^ (9 * k + 1) := by
        have h2 := H.out.2.1
        rw [D.B_ten] at h2
        exact Nat.lt_of_lt_of_le h2 (Nat.pow_le_pow_right (by decide) (Nat.le_succ _))
      have := D.nDig_le h1
      have := H.out.2.2
      omega
    clear hd
    go_enter Tryz.func129, Tryz.ntmps129
    go_wp2_with fail
    generalize w.alloc (.cells #[.bool s, .slice A L c] 94) = W0 at *
    refine (rdigits_any HC.out.2.2.2.2 H.out.2.1 (by have := H.out.2.2; omega)).mono ?_
    rw [← HN.out]
    rintro e w1 ⟨rfl, hb1⟩
    have H1 := Lib.hid (HC.out.2.2.2.1.trans (hb1.mono HC.out.2.2.2.1.size))
    clear hb1
    go_wp2
    go_ret2
    exact ⟨rfl, H1.out⟩

end Go.Proofs.YtjghgbfagjhdgaaGreatDoor
namespace Go.Proofs.YtjghgbfagjhdgaaGreatDoor
open Go Go.RowKit

/-- The numbers of two texts, boxed. -/
theorem boxed {w w1 : World} {A1 A2 : Option Addr} {L1 c1 L2 c2 : Nat} {a b : Bool} {p q : Int} (ha : a = decide (p < 0)) (hb : b = decide (q < 0)) (hp : DSz w1 (.slice A1 L1 c1) p.natAbs) (hq : DSz w1 (.slice A2 L2 c2) q.natAbs) (hB : Below w.heap.size w w1) :
    DBig ((w1.alloc (.cells #[.bool a, .slice A1 L1 c1] 94)).alloc (.cells #[.bool b, .slice A2 L2 c2] 94)) (.agg #[.bool a, .slice A1 L1 c1]) p ∧
    DBig ((w1.alloc (.cells #[.bool a, .slice A1 L1 c1] 94)).alloc (.cells #[.bool b, .slice A2 L2 c2] 94)) (.agg #[.bool b, .slice A2 L2 c2]) q ∧
    Below w.heap.size w ((w1.alloc (.cells #[.bool a, .slice A1 L1 c1] 94)).alloc (.cells #[.bool b, .slice A2 L2 c2] 94)) := by
  subst ha hb
  exact ⟨((hp.big).alloc _).alloc _, ((hq.big).alloc _).alloc _, (hB.alloc hB.size _).alloc (Nat.le_trans hB.size (by simp)) _⟩
theorem dsum_big {p q : Int} (hp : p.natAbs < D.B ^ 45) (hq : q.natAbs < D.B ^ 45) : (p + q).natAbs < D.B ^ 90 ∧ (p - q).natAbs < D.B ^ 90 ∧ (p * q).natAbs < D.B ^ 90 := by
  have e1 : D.B ^ 90 = D.B ^ 45 * D.B ^ 45 := by rw [← Nat.pow_add]
  have h2 : 2 ≤ D.B ^ 45 := Nat.le_trans D.B_two (by have := D.pow_mono (show 1 ≤ 45 by omega); rwa [Nat.pow_one] at this)
  have e2 := Nat.mul_le_mul_left (D.B ^ 45) h2
  have e3 := Nat.mul_lt_mul'' hp hq
  rw [← Int.natAbs_mul] at e3
  rw [e1]
  omega

end Go.Proofs.YtjghgbfagjhdgaaGreatDoor
