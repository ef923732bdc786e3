/- The source of numbers, again: it changes its own block alone. -/
import Derived.Test.YtfogkkanifnppaaGreatDoorNum
namespace Go.Proofs.YtfogkkanifnppaaGreatDoor
open Go Go.RowKit

/-- Of the blocks that were there only g has changed. -/
def Src1 (g : Nat) (w w' : World) : Prop := Below g w w' ∧ ∀ k, k < w.heap.size → k ≠ g → w'.heap[k]? = w.heap[k]?
section
variable {g : Nat} {w w' w'' : World}
theorem Src1.refl (g : Nat) (w : World) : Src1 g w w := ⟨Below.refl _ _, fun _ _ _ => rfl⟩
theorem Src1.trans (h : Src1 g w w') (h' : Src1 g w' w'') : Src1 g w w'' := ⟨h.1.trans h'.1, fun k hk hne => (h'.2 k (Nat.lt_of_lt_of_le hk h.1.size) hne).trans (h.2 k hk hne)⟩
theorem Src1.below (h : Below w.heap.size w w') (hg : g ≤ w.heap.size) : Src1 g w w' := ⟨h.mono hg, fun k hk _ => h.block k hk⟩
theorem Src1.alloc (h : Src1 g w w') (hg : g ≤ w'.heap.size) (o : Obj) : Src1 g w (w'.alloc o) := h.trans (Src1.below ((Below.refl _ _).alloc (Nat.le_refl _) o) hg)
theorem Src1.drawn (h : Drawn w w') : Src1 g w w' := ⟨h.below g, fun k _ _ => (h.below (k + 1)).block k (Nat.lt_succ_self k)⟩
theorem Src1.set (w : World) (j : Nat) (v : Value) : Src1 g w (w.setCell ⟨g, j, none⟩ v) := ⟨(Below.refl g w).setCell (p := ⟨g, j, none⟩) (Nat.le_refl _) v, fun _ _ hne => Below.heap_setCell _ _ _ _ hne⟩
theorem Src1.cell (h : Src1 g w w') {b i : Nat} (hb : b < w.heap.size) (hne : b ≠ g) : w'.cell? ⟨b, i, none⟩ = w.cell? ⟨b, i, none⟩ := by
  unfold World.cell?
  rw [h.2 b hb hne]
end
set_option maxHeartbeats 800000 in
set_option maxRecDepth 100000 in
theorem n_src {w : World} {g : Nat} (m : Int) (h : SrcIn w g) (hm : 1 ≤ m) (hm' : m ≤ 1000) :
    Calls Tryz.prog 45 #[.pointer (some ⟨g, 0, none⟩), .int .i64 m] w fun e w' => ∃ r : Int, e = .returned (.int .i64 r) ∧ (0 ≤ r ∧ r < m) ∧ SrcIn w' g ∧ Src1 g w w' := by
  have hg := h.lt
  have HS := Lib.hid h
  obtain ⟨A, n, c, a, hh, h1, h2, h3⟩ := h
  have c0 : w.cell? ⟨g, 0, none⟩ = some (.slice A n c) := cell_at hh rfl
  have c1 : w.cell? ⟨g, 1, none⟩ = some (.int .i64 (a : Int)) := cell_at hh rfl
  have f1 : w.frozen? ⟨g, 1, none⟩ = false := by simp [World.frozen?, hh]
  have H := Lib.hid (And.intro hh h3)
  clear hh h3
  by_cases hlt : a < n
  · obtain ⟨b, off, rfl, hbl, hc⟩ := H.out.2 (by omega)
    obtain ⟨z, hz, hz1, hz2⟩ := hc a hlt
    have hge : decide ((n : Int) ≤ (a : Int)) = false := decide_eq_false (by omega)
    have HC := Lib.hid (And.intro hc (And.intro hz1 hz2))
    clear hc hz1 hz2
    go_enter Tryz.func45, Tryz.ntmps45
    go_wp2_with fail
    go_quiet (fail)
    go_wp2_with fail
    obtain ⟨w2, hw2⟩ : ∃ w2, w2 = (w.drewN nq).setCell ⟨g, 1, none⟩ (.int .i64 ((a : Int) + 1)) := ⟨_, rfl⟩
    rw [← hw2]
    have hb1 : Src1 g w w2 := by
      rw [hw2]
      exact (Src1.drawn ((Drawn.refl w).drewN nq)).trans (Src1.set _ _ _)
    have hb2 := hb1.1
    have hh2 : w2.heap[g]? = some (.cells #[.slice (some ⟨b, off, none⟩) n c, .int .i64 ((a + 1 : Nat) : Int)] 62 (0, 0)) := by
      rw [hw2]
      exact Lib.heap_setCell_same (i := 1) (show (w.drewN nq).heap[g]? = _ from H.out.1) _
    have d0 : w2.cell? ⟨g, 0, none⟩ = some (.slice (some ⟨b, off, none⟩) n c) := cell_at hh2 rfl
    have d1 : w2.cell? ⟨g, 1, none⟩ = some (.int .i64 ((a : Int) + 1)) := cell_at hh2 rfl
    have dz : w2.cell? ⟨b, off + a, none⟩ = some (.int .i64 z) := (hb2.cell hbl).trans hz
    have hs2 : SrcIn w2 g := by
      refine ⟨_, n, c, a + 1, hh2, hlt, h2, fun _ => ⟨b, off, rfl, hbl, fun i hi => ?_⟩⟩
      obtain ⟨z, hz, hr⟩ := HC.out.1 i hi
      exact ⟨z, (hb2.cell hbl).trans hz, hr⟩
    have H2 := Lib.hid (And.intro hs2 hb1)
    clear hs2 hb1 hb2 hh2 hw2 c0 c1 f1 hz
    have hr := modv_range z m hm
    generalize hv : modv z m = v at *
    have HV := Lib.hid hv
    clear hv
    go_wp2_with fail
    go_quiet ((go_at_call 95; exact Calls.quiet_left (mod_any z m hm hm' HC.out.2.1 HC.out.2.2)))
    go_wp2
    go_ret
    exact ⟨_, rfl, by rw [HV.out]; exact hr, H2.out.1.below ((Drawn.refl w2).drewN nq |>.below _), H2.out.2.trans (Src1.drawn ((Drawn.refl w2).drewN nq))⟩
  · have hge : decide ((n : Int) ≤ (a : Int)) = true := decide_eq_true (by omega)
    go_enter Tryz.func45, Tryz.ntmps45
    go_wp2_with fail
    go_quiet (fail)
    go_wp2_with fail
    go_ret
    exact ⟨0, rfl, ⟨by omega, by omega⟩, HS.out.below ((Drawn.refl w).drewN nq |>.below _), Src1.drawn ((Drawn.refl w).drewN nq)⟩
set_option maxHeartbeats 1600000 in
set_option maxRecDepth 100000 in
theorem big_src {w : World} {g : Nat} (d : Nat) (h : SrcIn w g) (hd : d ≤ 100) :
    Calls Tryz.prog 28 #[.pointer (some ⟨g, 0, none⟩), .int .i64 (d : Int)] w fun e w' => ∃ t z, e = .returned (.string t) ∧ t.data.toList = Lib.itoa z ∧ Lib.nDigits z.natAbs ≤ max d 1 ∧ SrcIn w' g ∧ Src1 g w w' := by
  have H := Lib.hid h
  clear h
  go_enter Tryz.func28, Tryz.ntmps28
  go_wp2_with fail
  refine (n_src ((d : Int) + 1) H.out (by omega) (by omega)).mono ?_
  rintro e w1 ⟨r, rfl, ⟨hr0, hr1⟩, hs, hb⟩
  obtain ⟨n, rfl⟩ : ∃ n : Nat, r = (n : Int) := ⟨r.toNat, by omega⟩
  have H1 := Lib.hid (And.intro hs hb)
  clear hs hb hr0
  go_wp2_with fail
  go_loopw [6, 7] (fun ov iv wr => ∃ (k : Nat) (l : List UInt8), k ≤ n ∧ ov = .string ⟨l.toArray⟩ ∧ iv = .int .i64 (k : Int) ∧ l.length = k ∧ Digs l ∧ SrcIn wr g ∧ Src1 g w wr) (fun _ iv _ => n - (intOf iv).toNat)
  case atStart => exact ⟨0, [], Nat.zero_le _, rfl, rfl, rfl, Digs.nil, H1.out.1, H1.out.2⟩
  case round =>
    obtain ⟨k, l, hk, rfl, rfl, hl, hdg, hs, hb⟩ := hrel
    have HR := Lib.hid (And.intro hl (And.intro hdg (And.intro hs hb)))
    clear hl hdg hs hb
    by_cases hlt : k < n
    · go_wp2_with fail
      refine (n_src 10 HR.out.2.2.1 (by omega) (by omega)).mono ?_
      rintro e w2 ⟨r, rfl, ⟨hr0, hr1⟩, hs, hb⟩
      have H2 := Lib.hid (And.intro hs (HR.out.2.2.2.trans hb))
      clear hs hb
      by_cases h0 : k = 0
      · subst h0
        go_wp2_with fail
        refine (n_src 9 H2.out.1 (by omega) (by omega)).mono ?_
        rintro e w3 ⟨r3, rfl, ⟨hr3, hr4⟩, hs, hb⟩
        have H3 := Lib.hid (And.intro hs (H2.out.2.trans hb))
        clear hs hb
        have hcv := conv_one w3 (d := 48 + (1 + r3)) (by omega) (by omega)
        have hl0 : l = [] := List.length_eq_zero_iff.1 HR.out.1
        subst hl0
        go_wp2
        go_roundw
        case rel => exact ⟨1, [] ++ [UInt8.ofNat (48 + (1 + r3)).toNat], by omega, congrArg Value.string (bytes_app _ _), rfl, rfl, HR.out.2.1.snoc (d := 1 + r3) (by omega) (by omega) (fun _ => by omega), H3.out.1.alloc _, H3.out.2.alloc (Nat.le_of_lt H3.out.1.lt) _⟩
        case measure => simp [intOf]; omega
      · have hcv := conv_one w2 (d := 48 + r) (by omega) (by omega)
        have hll : l.length ≤ 1000 := by rw [HR.out.1]; omega
        go_wp2
        go_roundw
        case rel => exact ⟨k + 1, l ++ [UInt8.ofNat (48 + r).toNat], by omega, congrArg Value.string (bytes_app _ _), by go_num, by rw [List.length_append, HR.out.1]; rfl, HR.out.2.1.snoc (d := r) (by omega) (by omega) (fun e => absurd (by rw [← HR.out.1, e]; rfl) h0), H2.out.1.alloc _, H2.out.2.alloc (Nat.le_of_lt H2.out.1.lt) _⟩
        case measure => simp [intOf]; omega
    · obtain rfl : k = n := by omega
      by_cases he : l = []
      · subst he
        go_wp2_with fail
        go_ret
        exact ⟨_, 0, rfl, by decide +kernel, Nat.le_trans (show Lib.nDigits (0 : Int).natAbs ≤ 1 by decide +kernel) (Nat.le_max_right _ _), HR.out.2.2.1, HR.out.2.2.2⟩
      · have hem : l.isEmpty = false := by cases l with | nil => exact absurd rfl he | cons c l => rfl
        obtain ⟨u, hu, hl, hn⟩ := HR.out.2.1.itoa he
        have HU := Lib.hid (And.intro hu (And.intro hl hn))
        clear hu hl hn
        go_wp2_with fail
        refine (n_src 2 HR.out.2.2.1 (by omega) (by omega)).mono ?_
        rintro e w2 ⟨r, rfl, ⟨hr0, hr1⟩, hs, hb⟩
        have H2 := Lib.hid (And.intro hs (HR.out.2.2.2.trans hb))
        clear hs hb
        have hdg : Lib.nDigits u ≤ max d 1 := by have := HU.out.2.2; rw [HR.out.1] at this; omega
        have HD := Lib.hid hdg
        clear hdg
        have hll : l.length ≤ 1000 := by rw [HR.out.1]; omega
        by_cases h1 : r = 1
        · subst h1
          go_wp2
          go_ret
          refine ⟨_, -(u : Int), rfl, ?_, by rw [show (-(u : Int)).natAbs = u by omega]; exact HD.out, H2.out.1, H2.out.2⟩
          rw [T.itoa_neg (by have := HU.out.1; omega), show (-(u : Int)).natAbs = u by omega, ← HU.out.2.1]
          rfl
        · obtain rfl : r = 0 := by omega
          go_wp2
          go_ret
          refine ⟨_, (u : Int), rfl, ?_, HD.out, H2.out.1, H2.out.2⟩
          rw [T.itoa_nonneg (by omega), show (u : Int).natAbs = u by omega, ← HU.out.2.1]
end Go.Proofs.YtfogkkanifnppaaGreatDoor
