/- slices.Clone of limbs; setQuotient on a row with room. -/
import Derived.Test.YthnbocojjllfaaaGreatDoorOwn
import Derived.WalkSpells
namespace Go.Proofs.YthnbocojjllfaaaGreatDoor
open Go Go.RowKit

theorem digs_take {k L n : Nat} (hk : k ≤ L) : (digs L n).take k = digs k n := by
  apply List.ext_getElem?
  intro j
  rw [List.getElem?_take]
  by_cases hj : j < k
  · rw [if_pos hj, digs_get (by omega), digs_get hj]
  · rw [if_neg hj, List.getElem?_eq_none (by rw [digs_length]; omega)]
theorem Own.cut {w : World} {g L cap n k : Nat} (h : Own w g L cap n) (hk : k ≤ L) (hn : n < M.B ^ k) : Own w g k cap n := by
  refine ⟨⟨by rw [digs_length]; omega, ?_⟩, hn⟩
  rcases h.1.2 with ⟨h', _⟩ | ⟨g', cap', cur, h', hb, hg, h1, h2, h3, h4⟩
  · simp at h'
  · simp only [Value.slice.injEq, Option.some.injEq, Addr.mk.injEq, and_true, true_and] at h'
    obtain ⟨rfl, rfl⟩ := h'
    refine .inr ⟨g, cap, cur, rfl, hb, hg, by omega, h2, h3, ?_⟩
    rw [Nat.mul_one] at h4 ⊢
    rw [← digs_take hk, ← h4, List.take_take, Nat.min_eq_left hk]

theorem sq_dg (X y Q j : Nat) : M.dg (sq X y Q (j + 1)) j = M.dg Q j := by
  have h1 : sq X y Q (j + 1) % M.B ^ (j + 1) = Q % M.B ^ (j + 1) := by
    unfold sq
    rw [Nat.add_mul_mod_self_left, Nat.mod_mod]
  rw [← M.dg_mod (show j < j + 1 by omega), h1, M.dg_mod (by omega)]
theorem sq_own {wr : World} {g L cap X y Q k r : Nat} (hk : k < L) (hy : 0 < y) (hr : r = X / M.B ^ (k + 1) % y) (hb : r ≤ 4294967295) (hrow : Own wr g L cap (sq X y Q (k + 1))) :
    Own (wr.setCell ⟨g, k, none⟩ (.int .u32 (IntKind.u64.wrap ((bits .or .u64 ((r : Int) * 4294967296) (M.dg X k : Int)).tdiv (y : Int)) % 4294967296))) g L cap (sq X y Q k) := by
  have h := hrow.set hk (M.dg_lt (X / y) k)
  rw [sq_step] at h
  have h2 := M.dg_le (X / y) k
  rw [or_plain hb (M.dg_le X k), tdiv_nat, hr, quo_step hy]
  rwa [show IntKind.u64.wrap (M.dg (X / y) k : Int) % 4294967296 = (M.dg (X / y) k : Int) by rw [IntKind.wrap_u64]; omega]
theorem neq_nil_slice (b off n c : Nat) (w : World) : (binOp .eql 79 (.slice (some ⟨b, off, none⟩) n c) (.slice none 0 0)).run Tryz.prog w = .ok (.bool false) w := by
  simpa using Lib.run_eql_slice_nil (P := Tryz.prog) w 79 160 (some ⟨b, off, none⟩) n c 0 0 Tryz.underlying79
set_option maxHeartbeats 400000 in
theorem clone_any {w : World} {b off l c n : Nat} (h : Limbs w (some ⟨b, off, none⟩) l n) (h0 : 0 < l) (hl : l ≤ 100000) :
    Calls Tryz.prog 184 #[.slice (some ⟨b, off, none⟩) l c] w fun e w' => ∃ g cap, e = .returned (.slice (some ⟨g, 0, none⟩) l cap) ∧ Own w' g l cap n ∧ w.heap.size ≤ g ∧ Below w.heap.size w w' := by
  obtain ⟨i, hi, hz, hs, hb⟩ := info_parts info32
  obtain ⟨b', off', e, hbw, hc⟩ := h.2 h0
  injection e with e
  injection e with e1 e2 _
  subst e1 e2
  have H := Lib.hid (And.intro hi (And.intro hz (And.intro hs (And.intro hb (And.intro h hc)))))
  clear hi hz hs hb h hc
  have hnn := fun w => neq_nil_slice b off l c w
  have hown : (w.alloc (.cells #[] 160)).ownsRow w.heap.size 160 1 (.slice (some ⟨w.heap.size, 0, none⟩) 0 0) 0 [] := by
    have := World.ownsRow_lit (base := w.heap.size) (e := 160) (size := 1) w #[] 0 (Nat.le_refl _) (by omega) (by simp)
    simpa using this
  have hb0 : Below w.heap.size w (w.alloc (.cells #[] 160)) := (Below.refl _ _).alloc (Nat.le_refl _) _
  have hsz : w.heap.size ≤ (w.alloc (.cells #[] 160)).heap.size := hb0.size
  have hcell : ∀ j u, (digs l n)[j]? = some u → (w.alloc (.cells #[] 160)).cell? ((⟨b, off, none⟩ : Addr).add j) = some u := by
    intro j u hj
    have hjl : j < l := by
      rcases Nat.lt_or_ge j l with h1 | h1
      · exact h1
      · rw [List.getElem?_eq_none (by rw [digs_length]; omega)] at hj; cases hj
    rw [digs_get hjl] at hj
    injection hj with hj
    subst hj
    rw [show ((⟨b, off, none⟩ : Addr).add j) = ⟨b, off + j, none⟩ by unfold Addr.add; split <;> simp_all]
    exact (hb0.cell (p := ⟨b, off + j, none⟩) hbw).trans (H.out.2.2.2.2.2 j hjl)
  have H2 := Lib.hid (And.intro hown (And.intro hb0 (And.intro hsz hcell)))
  clear hown hb0 hsz hcell hbw
  go_enter Tryz.func184, Tryz.ntmps184
  go_wp2_with (at_builtin; refine wpList_append_own _ rfl (.tmp 5) (.tmp 6) 79 rfl w.heap.size 160 i (.int .u32 0) 1 4 Tryz.underlying79 H.out.1 H.out.2.1 H.out.2.2.1 H.out.2.2.2.1 rfl (by decide) _ 0 [] rfl H2.out.1 ⟨b, off, none⟩ l c (digs l n) rfl (by rw [digs_length]; omega) H2.out.2.2.2 (by intro u hu; obtain ⟨j, _, rfl⟩ := List.mem_map.1 hu; rfl) (by unfold maxLen; omega) (by omega) H2.out.2.2.1 ?_; intro v' w1 hown1 hgrow1 hnil)
  go_ret
  rw [Nat.zero_add, List.nil_append] at hown1
  have hg1 := H2.out.2.1.grown hgrow1 H2.out.2.2.1 (by intro k hk; exact Nat.le_of_eq (Option.some.inj hk))
  rcases hown1.2 with ⟨_, e⟩ | ⟨g, cap, cur, rfl, hbg, hg, h1, h2, h3, h4⟩
  · omega
  · exact ⟨g, cap, rfl, ⟨⟨by rw [digs_length]; omega, .inr ⟨g, cap, cur, rfl, Nat.le_refl _, hg, h1, h2, h3, h4⟩⟩, H.out.2.2.2.2.1.1⟩, hbg, hg1⟩

set_option maxHeartbeats 800000 in
set_option maxRecDepth 100000 in
theorem setQuotient_own {w : World} {g L cap X y : Nat} (h : Own w g L cap X) (hy : 0 < y) (hy' : y ≤ 4294967295) (hL : L ≤ 100000) :
    Calls Tryz.prog 182 #[.slice (some ⟨g, 0, none⟩) L cap, .slice (some ⟨g, 0, none⟩) L cap, .int .u32 (y : Int)] w fun e w' => e = .returned (.int .u32 ((X % y : Nat) : Int)) ∧ Own w' g L cap (X / y) ∧ w.grownBy w' (some g) := by
  have H := Lib.hid h
  clear h
  go_enter Tryz.func182, Tryz.ntmps182
  go_wp2_with fail
  go_loopw [7, 8] (fun rv iv wr => ∃ k r : Nat, k ≤ L ∧ iv = .int .i64 ((k : Int) - 1) ∧ rv = .int .u64 (r : Int) ∧ r = X / M.B ^ k % y ∧ Own wr g L cap (sq X y X k) ∧ w.grownBy wr (some g)) (fun _ iv _ => (intOf iv + 1).toNat)
  case atStart =>
    refine ⟨L, 0, Nat.le_refl _, rfl, rfl, by rw [Nat.div_eq_of_lt H.out.2, Nat.zero_mod], ?_, only_refl _ _⟩
    rw [sq_start H.out.2 H.out.2]; exact H.out
  case round =>
    obtain ⟨k, r, hk, rfl, rfl, hre, hr, hb⟩ := hrel
    have hlt := Nat.mod_lt (X / M.B ^ k) hy
    rw [← hre] at hlt
    have HE := Lib.hid hre
    clear hre
    have hr2 : (r : Int) % 4294967296 = r := by omega
    by_cases h0 : k = 0
    · subst h0
      rw [sq_end] at hr
      have HF := Lib.hid (show r = X % y by have h := HE.out; rwa [Nat.pow_zero, Nat.div_one] at h)
      have HR := Lib.hid (And.intro hr hb)
      clear hr hb
      go_wp2
      go_ret
      refine ⟨?_, HR.out.1, HR.out.2⟩
      rw [← HF.out]
      rfl
    · obtain ⟨j, rfl⟩ : ∃ j, k = j + 1 := ⟨k - 1, by omega⟩
      rw [show (((j + 1 : Nat) : Int) - 1) = (j : Int) by omega]
      have hxc := hr.cell (show j < L by omega)
      rw [sq_dg] at hxc
      have hqf := hr.free j
      have hdx := M.dg_le X j
      have HR := Lib.hid (And.intro hr hb)
      clear hr hb
      go_wp2
      go_roundw
      case rel =>
        have R := sq_own (show j < L by omega) hy HE.out (by omega) HR.out.1
        have E := sq_rem HE.out (show r ≤ 4294967295 by omega)
        refine ⟨j, X / M.B ^ j % y, by omega, rfl, ?_, Eq.refl _, R, only_set HR.out.2 _ _⟩
        rw [E]
      case measure => simp [intOf]
end Go.Proofs.YthnbocojjllfaaaGreatDoor
