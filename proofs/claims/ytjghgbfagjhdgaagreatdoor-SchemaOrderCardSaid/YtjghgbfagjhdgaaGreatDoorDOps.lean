/- The reference's times: a size times a limb. The reference's minus: it subtracts sizes, in a copy, in place. The reference's Mul of numbers. The reference's Add and Sub of numbers. The reference's division: a limb in front of a size; two numbers and two results' blocks. -/
import Derived.Test.YtjghgbfagjhdgaaGreatDoorDMem
import Derived.RegionTactic
import Derived.BigRegion
import Derived.Deep.QuietTactic
import Derived.BigQuiet
import Derived.Deep.RegionHeld3
import Derived.Deep.DrawnRows
namespace Go.Proofs.YtjghgbfagjhdgaaGreatDoor
open Go Go.RowKit

theorem dtimes_step {x n i t : Nat} (ht : t = D.tc x n i + D.dg x i * n) :
    t / D.B = D.tc x n (i + 1) ∧ ddigs i ((x * n) % D.B ^ i) ++ [.int .i64 ((t % D.B : Nat) : Int)] = ddigs (i + 1) ((x * n) % D.B ^ (i + 1)) := by
  subst ht
  refine ⟨(D.tc_succ x n i).symm, ?_⟩
  rw [ddigs_snoc _ _ _ (D.mod_lt _ _) (Nat.mod_lt _ D.B_pos), D.mod_succ, D.dg_mul, Nat.mul_comm (D.B ^ i)]
set_option maxHeartbeats 1600000 in
set_option maxRecDepth 100000 in
theorem dtimes_any {w : World} {A : Option Addr} {l x n : Nat} (c : Nat) (hx : DL w A l x) (hl : l ≤ 60000) (hn : n ≤ 999999999) :
    Calls Tryz.prog 182 #[.slice A l c, .int .i64 (n : Int)] w fun e w' => ∃ v, e = .returned v ∧ DSz w' v (x * n) ∧ Below w.heap.size w w' := by
  obtain ⟨ei, hi, hz, hs, hbs⟩ := info_parts info64
  have HI := Lib.hid (And.intro hi (And.intro hz (And.intro hs hbs)))
  clear hi hz hs hbs
  obtain ⟨W, hW⟩ : ∃ W, W = w.heap.size := ⟨_, rfl⟩
  have H0 := Lib.hid (show DGrow w W (.slice none 0 0) 0 ((x * n) % D.B ^ 0) ∧ Below W w w ∧ w.heap.size ≤ W ∧ W ≤ w.heap.size by
    rw [Nat.pow_zero, Nat.mod_one]
    exact ⟨DGrow.nil _ _, Below.refl _ _, by omega, by omega⟩)
  rw [← hW]
  have HX := Lib.hid hx
  have hnB : n < D.B := by rw [D.B_eq]; omega
  clear hx hW
  go_enter Tryz.func182, Tryz.ntmps182
  go_wp2_with fail
  go_loopw [5, 6, 7] (fun ov cv iv wr => ∃ i, i ≤ l + 1 ∧ iv = .int .i64 (i : Int) ∧ cv = .int .i64 (D.tc x n i : Int) ∧ DGrow wr W ov i ((x * n) % D.B ^ i) ∧ Below W w wr) (fun _ _ iv _ => l + 1 - (intOf iv).toNat)
  case atStart => exact ⟨0, by omega, rfl, by rw [D.tc_zero]; rfl, H0.out.1, H0.out.2.1⟩
  case round =>
    obtain ⟨i, hi, rfl, rfl, hr, hb⟩ := hrel
    have hx' := HX.out.below hb H0.out.2.2.1
    have hcl := D.tc_le x n i
    have hdx := D.dg_le x i
    have hbx := fun h => D.dg_big HX.out.1 (show l ≤ i from h)
    have hend := fun h => D.times_end HX.out.1 hnB (show l ≤ i from h)
    obtain ⟨t, ht⟩ : ∃ t, t = D.tc x n i + D.dg x i * n := ⟨_, rfl⟩
    have hstep := dtimes_step ht
    obtain ⟨S, hS⟩ : ∃ S, S = (x * n) % D.B ^ i := ⟨_, rfl⟩
    rw [← hS] at hr hstep
    obtain ⟨r, hr0⟩ : ∃ r, r = t % D.B := ⟨_, rfl⟩
    obtain ⟨q, hq0⟩ : ∃ q, q = t / D.B := ⟨_, rfl⟩
    rw [← hr0, ← hq0] at hstep
    have hp : D.dg x i * n ≤ 999999999 * 999999999 := Nat.mul_le_mul hdx hn
    have htb : t ≤ 999999999 + 999999999 * 999999999 := by omega
    have htm2 : (t : Int) % 1000000000 = (r : Int) := by rw [hr0, D.B_eq]; rfl
    have htd2 : (t : Int) / 1000000000 = (q : Int) := by rw [hq0, D.B_eq]; rfl
    have HR := Lib.hid (And.intro hr (And.intro hb (And.intro hstep hS)))
    clear hr hb hstep hS hr0 hq0
    by_cases h1 : i < l
    · obtain ⟨b, off, rfl, hbx0, hcx0⟩ := hx'.at_ h1
      have hcx := hcx0 i h1
      clear hcx0 hx' hend hbx
      obtain ⟨p, hpp⟩ : ∃ p, p = D.dg x i * n := ⟨_, rfl⟩
      rw [← hpp] at ht hp
      have hmul : (D.dg x i : Int) * (n : Int) = (p : Int) := by rw [hpp]; exact (Int.natCast_mul _ _).symm
      have hsum : (D.tc x n i : Int) + (p : Int) = (t : Int) := by omega
      clear ht hpp
      generalize D.tc x n i = k at *
      generalize D.dg x i = dx at *
      have HW := Lib.hid (And.intro hsum (And.intro htm2 htd2))
      clear htm2 htd2 hsum
      go_wp2_with (at_builtin; refine wpList_append_own _ rfl (.tmp 30) (.tmp 33) 22 rfl W 3 ei (.int .i64 0) 1 8 Tryz.underlying22 HI.out.1 HI.out.2.1 HI.out.2.2.1 HI.out.2.2.2 rfl (by decide) _ i (ddigs i S) rfl (HR.out.1.alloc _).1 ⟨wr.heap.size, 0, none⟩ 1 1 [.int .i64 (r : Int)] rfl rfl (by intro j u hj; match j, hj with | 0, hj => simp at hj; subst hj; simp [Addr.add, HW.out.1, HW.out.2.1]) (by intro u hu; simp at hu; subst hu; rfl) (by unfold maxLen; omega) (by omega) (by have := HR.out.2.1.size; have := H0.out.2.2.2; simp; omega) ?_; intro v' w1 hown1 hgrow1 hnil)
      have hfin := HR.out.1.step HR.out.2.1 (by have := HR.out.2.1.size; have := H0.out.2.2.2; omega) HR.out.2.2.1.2 (D.mod_lt _ _) hown1 hgrow1
      go_roundw
      case rel => exact ⟨i + 1, by omega, by go_num, by rw [← HR.out.2.2.1.1]; simp [HW.out.1, HW.out.2.2], hfin.1, hfin.2⟩
      case measure => simp [intOf]; omega
    · have hd0 := hbx (by omega)
      have hE := hend (by omega)
      clear hx' hend hbx
      rw [hd0, Nat.zero_mul, Nat.add_zero] at ht
      clear hd0 hdx hp
      rw [← ht] at hcl hE ⊢
      clear ht
      by_cases h0 : t = 0
      · subst h0
        have HE := Lib.hid (hE.2 rfl)
        clear hE htm2 htd2
        have hdv := HR.out.1.dv
        rw [HR.out.2.2.2, HE.out] at hdv
        obtain ⟨A1, L1, c1, e1, h5, h6, h7, h8⟩ := hdv
        subst e1
        have HV := Lib.hid (And.intro h5 (And.intro h7 h8))
        clear h5 h7 h8
        go_wp2_with fail
        refine (trim_big false HV.out.1 (by omega) HV.out.2.1 HV.out.2.2).mono ?_
        rintro e w1 ⟨s, rfl, ⟨A2, L2, c2, rfl, hs2⟩, hb1⟩
        have hs1 : DSz w1 (.slice A2 L2 c2) (x * n) := ⟨A2, L2, c2, rfl, hs2⟩
        clear hs2
        generalize decide (sg false (x * n) < 0) = s0 at *
        have HS := Lib.hid (And.intro hs1 (HR.out.2.1.trans (hb1.mono (Nat.le_trans H0.out.2.2.2 HR.out.2.1.size))))
        clear hs1 hb1
        have hfd := fun w => big_l s0 (.slice A2 L2 c2) w
        go_wp2
        go_ret
        exact ⟨_, rfl, HS.out.1, HS.out.2⟩
      · have hlt := hE.1 (by omega)
        clear hE
        have hpos : 0 < t := by omega
        have HW := Lib.hid (And.intro trivial (And.intro htm2 htd2))
        clear htm2 htd2
        go_wp2_with (at_builtin; refine wpList_append_own _ rfl (.tmp 30) (.tmp 33) 22 rfl W 3 ei (.int .i64 0) 1 8 Tryz.underlying22 HI.out.1 HI.out.2.1 HI.out.2.2.1 HI.out.2.2.2 rfl (by decide) _ i (ddigs i S) rfl (HR.out.1.alloc _).1 ⟨wr.heap.size, 0, none⟩ 1 1 [.int .i64 (r : Int)] rfl rfl (by intro j u hj; match j, hj with | 0, hj => simp at hj; subst hj; simp [Addr.add,  HW.out.2.1]) (by intro u hu; simp at hu; subst hu; rfl) (by unfold maxLen; omega) (by omega) (by have := HR.out.2.1.size; have := H0.out.2.2.2; simp; omega) ?_; intro v' w1 hown1 hgrow1 hnil)
        have hfin := HR.out.1.step HR.out.2.1 (by have := HR.out.2.1.size; have := H0.out.2.2.2; omega) HR.out.2.2.1.2 (D.mod_lt _ _) hown1 hgrow1
        go_roundw
        case rel => exact ⟨i + 1, by omega, by go_num, by rw [← HR.out.2.2.1.1]; simp [HW.out.2.2], hfin.1, hfin.2⟩
        case measure => simp [intOf]; omega
end Go.Proofs.YtjghgbfagjhdgaaGreatDoor
namespace Go.Proofs.YtjghgbfagjhdgaaGreatDoor
open Go Go.RowKit

def irow (L : Nat) (f : Nat → Int) : List Value := (List.range L).map fun i => Value.int .i64 (f i)
theorem irow_get {L i : Nat} {f : Nat → Int} (hi : i < L) : (irow L f)[i]? = some (.int .i64 (f i)) := by simp [irow, hi]
theorem irow_length (L : Nat) (f : Nat → Int) : (irow L f).length = L := by simp [irow]
theorem irow_set {L k : Nat} {f f' : Nat → Int} {d : Int} (h : ∀ j, j < L → f' j = if j = k then d else f j) : (irow L f).set k (.int .i64 d) = irow L f' := by
  apply List.ext_getElem?
  intro j
  rw [List.getElem?_set, irow_length]
  by_cases hj : j < L
  · rw [irow_get hj, irow_get hj, h j hj]
    by_cases e : k = j
    · subst e; rw [if_pos rfl, if_pos hj, if_pos rfl]
    · rw [if_neg e, if_neg (fun h => e h.symm)]
  · rw [List.getElem?_eq_none (by rw [irow_length]; omega), List.getElem?_eq_none (by rw [irow_length]; omega)]
    split <;> simp_all
theorem irow_congr {L : Nat} {f f' : Nat → Int} (h : ∀ j, j < L → f j = f' j) : irow L f = irow L f' := by
  unfold irow
  apply List.map_congr_left
  intro i hi
  rw [h i (List.mem_range.1 hi)]
theorem irow_ddigs (L n : Nat) : irow L (fun i => (D.dg n i : Int)) = ddigs L n := rfl
/-- Block g begins with the ints f. -/
def IRow (w : World) (g L cap : Nat) (f : Nat → Int) : Prop := w.ownsRow g 3 1 (.slice (some ⟨g, 0, none⟩) L cap) L (irow L f)
section
variable {w w' : World} {g L cap : Nat} {f f' : Nat → Int}
theorem IRow.block (h : IRow w g L cap f) : ∃ cur, w.heap[g]? = some (.cells cur 3 (0, 0)) ∧ L ≤ cap ∧ cap ≤ maxLen := by
  rcases h.2 with ⟨h', _⟩ | ⟨g', cap', cur, h', _, hg, h1, h2, _⟩
  · simp at h'
  · simp only [Value.slice.injEq, Option.some.injEq, Addr.mk.injEq, and_true, true_and] at h'
    obtain ⟨rfl, rfl⟩ := h'
    exact ⟨cur, hg, h1, h2⟩
theorem IRow.cell (h : IRow w g L cap f) {j : Nat} (hj : j < L) : w.cell? ⟨g, j, none⟩ = some (.int .i64 (f j)) := by
  have h2 := World.ownsRow.cellAt h j (by omega)
  rw [h2, irow_get hj]
theorem IRow.free (h : IRow w g L cap f) (j : Nat) : w.frozen? ⟨g, j, none⟩ = false := World.ownsRow.frozenAt h j
theorem IRow.set (h : IRow w g L cap f) {k : Nat} {d : Int} (hf : ∀ j, j < L → f' j = if j = k then d else f j) : IRow (w.setCell ⟨g, k, none⟩ (.int .i64 d)) g L cap f' := by
  have h2 := (World.ownsRow.stored h k (.int .i64 d)).1
  rw [irow_set hf] at h2
  exact h2
theorem IRow.lt (h : IRow w g L cap f) : g < w.heap.size := by obtain ⟨_, h, _⟩ := h.block; exact lt_of_block h
theorem IRow.own {n : Nat} (h : IRow w g L cap f) (hn : n < D.B ^ L) (hf : ∀ j, j < L → f j = D.dg n j) : DOwn w g L cap n := by
  refine ⟨?_, hn⟩
  unfold IRow at h
  rw [irow_congr hf] at h
  exact h
end

section
variable {wr : World} {g l cap x y i : Nat}
theorem sub_row_hi (hyx : y ≤ x) (hr : IRow wr g l cap (D.sc x y i)) (h : (D.dg x i : Int) - D.borrow x y i - D.dg y i < 0) {b c : Int} (hb : b = (D.dg x i : Int) - D.borrow x y i - D.dg y i + 1000000000) (hc : c = (D.dg x (i + 1) : Int) - 1) :
    IRow ((wr.setCell ⟨g, i, none⟩ (.int .i64 b)).setCell ⟨g, i + 1, none⟩ (.int .i64 c)) g l cap (D.sc x y (i + 1)) := by
  have hhi := D.sc_succ_hi hyx h
  have hB : (D.B : Int) = 1000000000 := by rw [D.B_eq]; rfl
  refine (hr.set (f' := fun j => if j = i then b else D.sc x y i j) fun _ _ => rfl).set fun j _ => ?_
  rw [hhi j]
  by_cases e : j = i + 1
  · rw [if_pos e, if_pos e, hc]
  · rw [if_neg e, if_neg e]
    by_cases e2 : j = i
    · rw [if_pos e2, if_pos e2, hb, hB]
    · rw [if_neg e2, if_neg e2]
theorem sub_row_hi2 (hyx : y ≤ x) (hr : IRow wr g l cap (D.sc x y i)) (h : (D.dg x i : Int) - D.borrow x y i - D.dg y i < 0) {a b c : Int} (hb : b = (D.dg x i : Int) - D.borrow x y i - D.dg y i + 1000000000) (hc : c = (D.dg x (i + 1) : Int) - 1) :
    IRow (((wr.setCell ⟨g, i, none⟩ (.int .i64 a)).setCell ⟨g, i, none⟩ (.int .i64 b)).setCell ⟨g, i + 1, none⟩ (.int .i64 c)) g l cap (D.sc x y (i + 1)) := by
  have hhi := D.sc_succ_hi hyx h
  have hB : (D.B : Int) = 1000000000 := by rw [D.B_eq]; rfl
  refine ((hr.set (f' := fun j => if j = i then a else D.sc x y i j) fun _ _ => rfl).set (f' := fun j => if j = i then b else D.sc x y i j) fun j _ => ?_).set fun j _ => ?_
  · by_cases e2 : j = i
    · simp only [if_pos e2]
    · simp only [if_neg e2]
  · rw [hhi j]
    by_cases e : j = i + 1
    · rw [if_pos e, if_pos e, hc]
    · rw [if_neg e, if_neg e]
      by_cases e2 : j = i
      · rw [if_pos e2, if_pos e2, hb, hB]
      · rw [if_neg e2, if_neg e2]
theorem sub_row_lo (hyx : y ≤ x) (hr : IRow wr g l cap (D.sc x y i)) (h : 0 ≤ (D.dg x i : Int) - D.borrow x y i - D.dg y i) {a : Int} (ha : a = (D.dg x i : Int) - D.borrow x y i - D.dg y i) :
    IRow (wr.setCell ⟨g, i, none⟩ (.int .i64 a)) g l cap (D.sc x y (i + 1)) := by
  subst ha
  exact hr.set fun j _ => D.sc_succ_lo hyx h j
theorem sub_row_no (hyx : y ≤ x) (hr : IRow wr g l cap (D.sc x y i)) (hy : D.dg y i = 0) (h : 0 ≤ (D.dg x i : Int) - D.borrow x y i) : IRow wr g l cap (D.sc x y (i + 1)) := by
  have e : irow l (D.sc x y (i + 1)) = irow l (D.sc x y i) := irow_congr fun j _ => by
    rw [D.sc_succ_lo hyx (by rw [hy]; omega) j]
    by_cases e2 : j = i
    · rw [if_pos e2, e2, D.sc_at, hy]; omega
    · rw [if_neg e2]
  unfold IRow at hr ⊢
  rw [e]; exact hr
end

set_option maxHeartbeats 1600000 in
set_option maxRecDepth 100000 in
theorem dminus_any {w : World} {A A' : Option Addr} {l l' x y : Nat} (c c' : Nat) (hx : DL w A l x) (hy : DL w A' l' y) (hyx : y ≤ x) (hl : l ≤ 60000) (hl' : l' ≤ 60000) (hl0 : 0 < l) :
    Calls Tryz.prog 183 #[.slice A l c, .slice A' l' c'] w fun e w' => ∃ g cap, e = .returned (.slice (some ⟨g, 0, none⟩) l cap) ∧ DOwn w' g l cap (x - y) ∧ Below w.heap.size w w' ∧ w.heap.size ≤ g := by
  obtain ⟨ei, hi, hz, hs, hbs⟩ := info_parts info64
  have HI := Lib.hid (And.intro hi (And.intro hz (And.intro hs hbs)))
  clear hi hz hs hbs
  obtain ⟨b, off, rfl, hbw, hcx⟩ := hx.2 hl0
  have hcell : ∀ j u, (ddigs l x)[j]? = some u → w.cell? ((⟨b, off, none⟩ : Addr).add j) = some u := by
    intro j u hj
    have hjl : j < l := by
      rcases Nat.lt_or_ge j l with h1 | h1
      · exact h1
      · rw [List.getElem?_eq_none (by rw [ddigs_length]; omega)] at hj; cases hj
    rw [ddigs_get hjl] at hj
    injection hj with hj
    subst hj
    rw [show ((⟨b, off, none⟩ : Addr).add j) = ⟨b, off + j, none⟩ by unfold Addr.add; split <;> simp_all]
    exact hcx j hjl
  have H := Lib.hid (And.intro hcell (And.intro hx (And.intro hy hyx)))
  clear hcell hcx hx hy hyx hbw
  go_enter Tryz.func183, Tryz.ntmps183
  go_wp2_with (at_builtin; refine wpList_append_own _ rfl (.const (.slice none 0 0)) (.tmp 7) 22 rfl w.heap.size 3 ei (.int .i64 0) 1 8 Tryz.underlying22 HI.out.1 HI.out.2.1 HI.out.2.2.1 HI.out.2.2.2 rfl (by decide) _ 0 [] rfl ⟨rfl, .inl ⟨rfl, rfl⟩⟩ ⟨b, off, none⟩ l c (ddigs l x) rfl (by rw [ddigs_length]; omega) H.out.1 (by intro u hu; obtain ⟨j, _, rfl⟩ := List.mem_map.1 hu; rfl) (by unfold maxLen; omega) (by omega) (Nat.le_refl _) ?_; intro v' w1 hown1 hgrow1 hnil)
  rw [Nat.zero_add, List.nil_append] at hown1
  have hb1 : Below w.heap.size w w1 := (Below.refl _ _).grown hgrow1 (Nat.le_refl _) (by intro k hk; cases hk)
  clear hgrow1 hnil
  rcases hown1.2 with ⟨_, e⟩ | ⟨g, cap, cur, rfl, hbg, hg, h1, h2, h3, h4⟩
  · omega
  have hr1 : IRow w1 g l cap (D.sc x y 0) := by
    have e : irow l (D.sc x y 0) = ddigs l x := by rw [← irow_ddigs]; exact irow_congr fun j _ => D.sc_zero x y j
    unfold IRow
    rw [e]
    exact ⟨by rw [ddigs_length]; omega, .inr ⟨g, cap, cur, rfl, Nat.le_refl _, hg, h1, h2, h3, h4⟩⟩
  have H1 := Lib.hid (And.intro hr1 (And.intro hb1 hbg))
  unfold maxLen at h2
  clear hown1 hr1 hb1 hbg hg h3 h4
  go_loopw [6] (fun iv wr => ∃ i, i ≤ l ∧ iv = .int .i64 (i : Int) ∧ IRow wr g l cap (D.sc x y i) ∧ Below w.heap.size w wr) (fun iv _ => l - (intOf iv).toNat)
  case atStart => exact ⟨0, by omega, rfl, H1.out.1, H1.out.2.1⟩
  case round =>
    obtain ⟨i, hi, rfl, hr, hb⟩ := hrel
    by_cases hlt : i < l
    · have hc0 := hr.cell hlt
      have hf0 := hr.free i
      have hf1 := hr.free (i + 1)
      rw [D.sc_at] at hc0
      have hdx := D.dg_le x i
      have hdy := D.dg_le y i
      have hbo := D.borrow_le x y i
      have hdx1 := D.dg_le x (i + 1)
      have hy' := H.out.2.2.1.below hb (Nat.le_refl _)
      have hby := fun h => D.dg_big H.out.2.2.1.1 (show l' ≤ i from h)
      have hnx := fun h => D.borrow_end H.out.2.2.2 H.out.2.1.1 (D.sub_hi (i := i) H.out.2.2.2 h).2 hlt
      have hc1 := fun h => hr.cell (show i + 1 < l from h)
      rw [D.sc_next] at hc1
      obtain ⟨v0, hv0⟩ : ∃ v0 : Int, v0 = (D.dg x i : Int) - D.borrow x y i := ⟨_, rfl⟩
      rw [← hv0] at hc0 hnx
      have hb0 : -1 ≤ v0 ∧ v0 ≤ 999999999 := by omega
      obtain ⟨b01, b02⟩ := hb0
      have HR := Lib.hid (And.intro hr (And.intro hb hv0))
      clear hr hb hv0 hdx hbo
      by_cases h2 : i < l'
      · obtain ⟨b', off', rfl, hb', hcy0⟩ := hy'.at_ h2
        have hcy := hcy0 i h2
        clear hcy0 hy' hby
        obtain ⟨dy, hdy0⟩ : ∃ dy, dy = D.dg y i := ⟨_, rfl⟩
        rw [← hdy0] at hdy hcy hnx
        have HDY := Lib.hid hdy0
        clear hdy0
        by_cases h3 : v0 - (dy : Int) < 0
        · have hi1 := hnx h3
          have hc1' := hc1 hi1
          obtain ⟨d1, hd1⟩ : ∃ d1, d1 = D.dg x (i + 1) := ⟨_, rfl⟩
          rw [← hd1] at hc1' hdx1
          have HD1 := Lib.hid hd1
          clear hnx hc1 hd1
          go_wp2_with fail
          go_region
          go_wp2
          go_roundw
          case rel => exact ⟨i + 1, by omega, by go_num, sub_row_hi2 H.out.2.2.2 HR.out.1 (by rw [← HR.out.2.2, ← HDY.out]; exact h3) (by rw [← HR.out.2.2, ← HDY.out]) (by rw [← HD1.out]), (((HR.out.2.1.setCell H1.out.2.2 _).setCell H1.out.2.2 _).setCell H1.out.2.2 _).drew⟩
          case measure => simp [intOf]; omega
        · clear hnx hc1
          go_wp2_with fail
          go_region
          go_wp2
          go_roundw
          case rel => exact ⟨i + 1, by omega, by go_num, sub_row_lo H.out.2.2.2 HR.out.1 (by rw [← HR.out.2.2, ← HDY.out]; omega) (by rw [← HR.out.2.2, ← HDY.out]), (HR.out.2.1.setCell H1.out.2.2 _).drew⟩
          case measure => simp [intOf]; omega
      · have hy0 := hby (by omega)
        have HY0 := Lib.hid hy0
        rw [hy0] at hnx
        clear hy' hby hdy hy0
        by_cases h3 : v0 < 0
        · have hi1 := hnx (by simpa using h3)
          have hc1' := hc1 hi1
          obtain ⟨d1, hd1⟩ : ∃ d1, d1 = D.dg x (i + 1) := ⟨_, rfl⟩
          rw [← hd1] at hc1' hdx1
          have HD1 := Lib.hid hd1
          clear hnx hc1 hd1
          go_wp2
          go_roundw
          case rel => exact ⟨i + 1, by omega, by go_num, sub_row_hi H.out.2.2.2 HR.out.1 (by rw [← HR.out.2.2, HY0.out]; simpa using h3) (by rw [← HR.out.2.2, HY0.out]; simp) (by rw [← HD1.out]), (HR.out.2.1.setCell H1.out.2.2 _).setCell H1.out.2.2 _⟩
          case measure => simp [intOf]; omega
        · clear hnx hc1
          go_wp2
          go_roundw
          case rel => exact ⟨i + 1, by omega, by go_num, sub_row_no H.out.2.2.2 HR.out.1 HY0.out (by rw [← HR.out.2.2]; omega), HR.out.2.1⟩
          case measure => simp [intOf]; omega
    · obtain rfl : i = l := by omega
      have ho := hr.own (n := x - y) (Nat.lt_of_le_of_lt (Nat.sub_le _ _) H.out.2.1.1) (fun j hj => D.sc_done hj)
      have HO := Lib.hid (And.intro ho hb)
      clear hr hb ho hlt hi
      go_wp2
      go_ret
      exact ⟨g, cap, rfl, HO.out.1, HO.out.2, H1.out.2.2⟩
end Go.Proofs.YtjghgbfagjhdgaaGreatDoor
namespace Go.Proofs.YtjghgbfagjhdgaaGreatDoor
open Go Go.RowKit

theorem make_ints (n : Nat) (hn : n ≤ 1000000) (w : World) :
    (Instr.makeSlice 22 (.int .i64 (n : Int)) (.int .i64 (n : Int))).run Tryz.prog w = .ok (.slice (some ⟨w.heap.size, 0, none⟩) n n) (w.alloc (.cells (madeCells #[Value.int .i64 0] n) 3)) := by
  obtain ⟨i, hi, hz, hs, hb⟩ := info_parts info64
  have h := run_make (P := Tryz.prog) w 22 3 i _ Tryz.underlying22 hi hz .i64 .i64 n n (by omega) (by omega) (by rw [hb]; omega) (by omega)
  rw [hs] at h
  simpa [Value.cells] using h
/-- Onto V in place i + k, with the carry q, comes t. -/
theorem mul_in {V N X y q i k t r q' : Nat} (h : V + q * D.B ^ (i + k) = N + X * (y % D.B ^ k) * D.B ^ i) (ht : t = q + D.dg V (i + k) + X * D.dg y k) (hr : r = t % D.B) (hq : q' = t / D.B) :
    D.put V (i + k) r + q' * D.B ^ (i + (k + 1)) = N + X * (y % D.B ^ (k + 1)) * D.B ^ i := by
  have h2 := D.mul_step (l := X) h
  rw [show q + (X * D.dg y k + D.dg V (i + k)) = t by omega] at h2
  rw [hr, hq]; exact h2
theorem mul_room {V N q i k L : Nat} (h : V + q * D.B ^ (i + k) = N) (hN : N < D.B ^ L) (hq : 0 < q) : i + k < L := by
  rcases Nat.lt_or_ge (i + k) L with h1 | h1
  · exact h1
  · exfalso
    have h2 := D.pow_mono h1
    have h3 := Nat.mul_le_mul_right (D.B ^ (i + k)) (show 1 ≤ q from hq)
    omega
theorem mul_carry {q v X d t : Nat} (hq : q ≤ 999999999) (hv : v ≤ 999999999) (hX : X ≤ 999999999) (hd : d ≤ 999999999) (ht : t = q + v + X * d) : t ≤ 999999999999999999 ∧ t / D.B ≤ 999999999 := by
  have := Nat.mul_le_mul hX hd
  rw [D.B_eq]
  omega
theorem mul_row {x y i l' : Nat} (hy : y < D.B ^ l') : x % D.B ^ (i + 1) * y < D.B ^ (i + 1 + l') := by
  have h := Nat.mul_lt_mul'' (D.mod_lt x (i + 1)) hy
  rw [← Nat.pow_add] at h
  exact h
theorem mul_next (x y i : Nat) : x % D.B ^ i * y + D.dg x i * y * D.B ^ i = x % D.B ^ (i + 1) * y := by
  rw [D.mod_succ, Nat.add_mul, Nat.mul_right_comm, Nat.mul_comm (D.B ^ i)]

set_option maxHeartbeats 1600000 in
set_option maxRecDepth 100000 in
theorem rmul_any {w : World} {u v : Value} {x y : Int} {k : Nat} (hx : DBig w u x) (hy : DBig w v y) (bx : x.natAbs < D.B ^ k) (by_ : y.natAbs < D.B ^ k) (hk : k ≤ 20000) :
    Calls Tryz.prog 133 #[u, v] w fun e w' => ∃ s, e = .returned (.agg #[.bool (decide (x * y < 0)), s]) ∧ DSz w' s (x * y).natAbs ∧ Below w.heap.size w w' := by
  obtain ⟨A, l, c, rfl, hl, hm, hc, hcm, hlk⟩ := hx.open_ bx
  obtain ⟨A', l', c', rfl, hl', hm', hc', hcm', hlk'⟩ := hy.open_ by_
  have hsg : sg (decide (x < 0) != decide (y < 0)) (x.natAbs * y.natAbs) = x * y := by
    have hxa : (x.natAbs : Int) = if decide (x < 0) = true then -x else x := by
      by_cases h : x < 0
      · rw [decide_eq_true h, if_pos rfl]; omega
      · rw [decide_eq_false h, if_neg Bool.false_ne_true]; omega
    have hya : (y.natAbs : Int) = if decide (y < 0) = true then -y else y := by
      by_cases h : y < 0
      · rw [decide_eq_true h, if_pos rfl]; omega
      · rw [decide_eq_false h, if_neg Bool.false_ne_true]; omega
    unfold sg
    rw [Int.natCast_mul, hxa, hya]
    cases decide (x < 0) <;> cases decide (y < 0) <;> simp [Int.neg_mul, Int.mul_neg]
  obtain ⟨X, hX⟩ : ∃ X, X = x.natAbs := ⟨_, rfl⟩
  obtain ⟨Y, hY⟩ : ∃ Y, Y = y.natAbs := ⟨_, rfl⟩
  rw [← hX] at hl bx hsg
  rw [← hY] at hl' by_ hsg
  obtain ⟨Z, hZ⟩ : ∃ Z, Z = x * y := ⟨_, rfl⟩
  rw [← hZ] at hsg ⊢
  have hZa : Z.natAbs = X * Y := by rw [← hsg, sg_abs]
  rw [hZa]
  have hmk := make_ints (l + l' + 1) (by omega)
  rw [show ((l + l' + 1 : Nat) : Int) = (l : Int) + l' + 1 by omega] at hmk
  clear hm hm' hx hy hX hY hZ hZa bx by_
  generalize decide (x < 0) = s at *
  generalize decide (y < 0) = t at *
  have HX := Lib.hid hl
  have HY := Lib.hid hl'
  have HS := Lib.hid hsg
  clear hl hl' hsg
  go_enter Tryz.func133, Tryz.ntmps133
  go_wp2_with fail
  change Code.wp _ _ _ _ ((dbox3 w s t (.slice A l c) (.slice A' l' c')).alloc (.cells (madeCells #[Value.int .i64 0] (l + l' + 1)) 3))
  have hg0 : (dbox3 w s t (.slice A l c) (.slice A' l' c')).heap.size = w.heap.size + 1 + 1 + 1 := by simp [dbox3]
  have hr0 := DRow.new (dbox3 w s t (.slice A l c) (.slice A' l' c')) (l + l' + 1)
  have hd0 := (dbox3_two w s t (.slice A l c) (.slice A' l' c')).alloc (.cells (madeCells #[Value.int .i64 0] (l + l' + 1)) 3)
  rw [hg0] at hr0
  clear hg0 hmk
  generalize (dbox3 w s t (.slice A l c) (.slice A' l' c')).alloc (.cells (madeCells #[Value.int .i64 0] (l + l' + 1)) 3) = W0 at *
  obtain ⟨g, hg⟩ : ∃ g, g = w.heap.size + 1 + 1 + 1 := ⟨_, rfl⟩
  rw [← hg] at hr0 ⊢
  have hgw : w.heap.size + 3 ≤ g := by omega
  have H0 := Lib.hid (And.intro hr0 hd0)
  clear hr0 hd0 hg
  obtain ⟨L, hL⟩ : ∃ L, L = l + l' + 1 := ⟨_, rfl⟩
  rw [← hL] at H0 ⊢
  have hLb : L ≤ 50000 := by omega
  have HL := Lib.hid hL
  clear hL
  go_loopw [6] (fun iv wr => ∃ i, i ≤ l ∧ iv = .int .i64 (i : Int) ∧ DRow wr g L (X % D.B ^ i * Y) ∧ DTwo w wr s t (.slice A l c) (.slice A' l' c')) (fun iv _ => l - (intOf iv).toNat)
  case atStart => exact ⟨0, by omega, rfl, by simpa [Nat.mod_one] using H0.out.1, H0.out.2⟩
  case round =>
    obtain ⟨i, hi, rfl, hr, hd⟩ := hrel
    by_cases hlt : i < l
    · have hx' := HX.out.below hd.below (Nat.le_refl _)
      obtain ⟨bx, ox, rfl, hbx, hcx0⟩ := hx'.at_ hlt
      have c01 := hd.c01
      have c11 := hd.c11
      have HR := Lib.hid (And.intro hr hd)
      clear hr hd hx' hbx hcx0
      obtain ⟨dx, hdx⟩ : ∃ dx, dx = D.dg X i := ⟨_, rfl⟩
      have hdx9 : dx ≤ 999999999 := by rw [hdx]; exact D.dg_le X i
      have HDX := Lib.hid hdx
      clear hdx
      go_wp2_with fail
      obtain ⟨wo, rfl⟩ : ∃ wo : World, wo = wr := ⟨_, rfl⟩
      go_loopw [7, 8] (fun cv kv wr => ∃ k q V : Nat, k ≤ l' + 1 ∧ kv = .int .i64 (k : Int) ∧ cv = .int .i64 (q : Int) ∧ q ≤ 999999999 ∧ DRow wr g L V ∧ DTwo w wr s t (.slice (some ⟨bx, ox, none⟩) l c) (.slice A' l' c') ∧ V + q * D.B ^ (i + k) = X % D.B ^ i * Y + dx * (Y % D.B ^ k) * D.B ^ i) (fun _ kv _ => l' + 2 - (intOf kv).toNat)
      case atStart => exact ⟨0, 0, _, by omega, rfl, rfl, by omega, HR.out.1, HR.out.2, by simp [Nat.mod_one]⟩
      case round =>
        obtain ⟨k, q, V, hk, rfl, rfl, hq, hr, hd, hE⟩ := hrel
        have c01 := hd.c01
        have c11 := hd.c11
        have hv := D.dg_le V (i + k)
        obtain ⟨dv, hdv⟩ : ∃ dv, dv = D.dg V (i + k) := ⟨_, rfl⟩
        rw [← hdv] at hv
        by_cases hkl : k < l'
        · have hik : i + k < L := by have := HL.out; omega
          have hcv := hr.cell hik
          have hfv := hr.free (i + k)
          obtain ⟨by0, oy, rfl, hby, hcy0⟩ := (HY.out.below hd.below (Nat.le_refl _)).at_ hkl
          have hcy := hcy0 k hkl
          obtain ⟨bx', ox', hbe, hbx, hcx0⟩ := (HX.out.below hd.below (Nat.le_refl _)).at_ hlt
          injection hbe with hbe
          injection hbe with e1 e2 _
          subst e1 e2
          have hcx := hcx0 i hlt
          rw [← HDX.out] at hcx
          rw [← hdv] at hcv
          obtain ⟨dy, hdy⟩ : ∃ dy, dy = D.dg Y k := ⟨_, rfl⟩
          have hdy9 : dy ≤ 999999999 := by rw [hdy]; exact D.dg_le Y k
          rw [← hdy] at hcy
          obtain ⟨p, hp⟩ : ∃ p, p = dx * dy := ⟨_, rfl⟩
          obtain ⟨T, hT⟩ : ∃ T, T = q + dv + p := ⟨_, rfl⟩
          have hTB := mul_carry hq hv hdx9 hdy9 (show T = q + dv + dx * dy by rw [hT, hp])
          have hpb : p ≤ 999999998000000001 := by rw [hp]; exact Nat.mul_le_mul hdx9 hdy9
          have hmul : (dx : Int) * (dy : Int) = (p : Int) := by rw [hp]; exact (Int.natCast_mul _ _).symm
          have hin := mul_in (X := dx) (t := T) hE (by rw [hT, hp, hdv, hdy]) rfl rfl
          have hsum : (q : Int) + (dv : Int) + (p : Int) = (T : Int) := by omega
          have HH := Lib.hid (And.intro hr (And.intro hd (And.intro hin (And.intro hTB.2 hsum))))
          clear hr hd hin hTB hE hdv hcx0 hcy0 hby hbx hdy hp hT hsum
          go_wp2_with fail
          go_quiet (fail)
          go_wp2
          go_roundw
          case rel => exact ⟨k + 1, T / D.B, _, by omega, by go_num, by rw [HH.out.2.2.2.2, dcast_div], HH.out.2.2.2.1, by rw [HH.out.2.2.2.2, dcast_mod]; exact HH.out.1.set hik (Nat.mod_lt _ D.B_pos), (HH.out.2.1.drewN _).far (by simp; omega) _, HH.out.2.2.1⟩
          case measure => simp [intOf]; omega
        · have hyk : Y % D.B ^ k = Y := D.mod_of_lt (Nat.lt_of_lt_of_le HY.out.1 (D.pow_mono (by omega)))
          have hE2 : V + q * D.B ^ (i + k) = X % D.B ^ (i + 1) * Y := by
            rw [hE, hyk, HDX.out, mul_next]
          by_cases hq0 : q = 0
          · subst hq0
            have hV : V = X % D.B ^ (i + 1) * Y := by simpa using hE2
            subst hV
            have HH := Lib.hid (And.intro hr hd)
            clear hr hd hE hE2 hyk hdv
            go_wp2
            go_roundw
            case rel => exact ⟨i + 1, by omega, by go_num, HH.out.1, HH.out.2⟩
            case measure => simp [intOf]; omega
          · have hq1 : 0 < q := by omega
            have hik2 := mul_room hE2 (mul_row (x := X) (i := i) HY.out.1) hq1
            have hik : i + k < L := by have := HL.out; omega
            have hcv := hr.cell hik
            have hfv := hr.free (i + k)
            rw [← hdv] at hcv
            obtain ⟨T, hT⟩ : ∃ T, T = q + dv := ⟨_, rfl⟩
            have hdy0 : D.dg Y k = 0 := D.dg_big HY.out.1 (by omega)
            have hin := mul_in (X := dx) (t := T) hE (by rw [hT, hdv, hdy0]; omega) rfl rfl
            have hTB : T / D.B ≤ 999999999 := by rw [D.B_eq]; omega
            have hsum : (q : Int) + (dv : Int) = (T : Int) := by omega
            have HH := Lib.hid (And.intro hr (And.intro hd (And.intro hin (And.intro hTB hsum))))
            clear hr hd hin hTB hE hdv hT hsum hE2 hyk hdy0 hq0
            go_wp2
            go_roundw
            case rel => exact ⟨k + 1, T / D.B, _, by omega, by go_num, by rw [HH.out.2.2.2.2, dcast_div], HH.out.2.2.2.1, by rw [HH.out.2.2.2.2, dcast_mod]; exact HH.out.1.set hik (Nat.mod_lt _ D.B_pos), HH.out.2.1.far (by simp; omega) _, HH.out.2.2.1⟩
            case measure => simp [intOf]; omega
    · obtain rfl : i = l := by omega
      rw [D.mod_of_lt HX.out.1] at hr
      have c00 := hd.c00
      have c10 := hd.c10
      have c01 := hd.c01
      have c11 := hd.c11
      have HR := Lib.hid (And.intro hr.limbs hd)
      clear hr hd hlt hi
      go_wp2_with fail
      refine (trim_big (s != t) HR.out.1 (by omega) (Nat.le_refl _) (by unfold maxLen; omega)).mono ?_
      rintro e w1 ⟨z, rfl, ⟨A2, L2, c2, rfl, hs2⟩, hb1⟩
      have hs1 : DSz w1 (.slice A2 L2 c2) (X * Y) := ⟨A2, L2, c2, rfl, hs2⟩
      have hd1 := HR.out.2.op hb1
      rw [HS.out]
      obtain ⟨s0, hs0⟩ : ∃ s0, s0 = decide (Z < 0) := ⟨_, rfl⟩
      rw [← hs0]
      have HS0 := Lib.hid hs0
      obtain ⟨v0, r0⟩ := hd1.r0
      obtain ⟨v1, r1⟩ := hd1.r1
      have rf0 := hd1.f2 0
      have rf1 := hd1.f2 1
      have HF := Lib.hid (And.intro (hd1.done s0 A2 L2 c2) (hs1.far hd1.b2 s0 (.slice A2 L2 c2)))
      clear hs1 hs2 hd1 hb1 c00 c10 c01 c11 hs0
      go_wp2
      change bodyPost _ _ _ _ _ (dres w1 (w.heap.size + 1 + 1) s0 (.slice A2 L2 c2))
      obtain ⟨⟨z0, z1, z2⟩, z3⟩ := HF.out
      generalize dres w1 (w.heap.size + 1 + 1) s0 (.slice A2 L2 c2) = W3 at *
      exact bodyPost_ret (v := .agg #[.bool s0, .slice A2 L2 c2]) (by simp [results, Tryz.results133, go_sem, z0, z1]) rfl ⟨_, by rw [HS0.out], z3, z2⟩
end Go.Proofs.YtjghgbfagjhdgaaGreatDoor
namespace Go.Proofs.YtjghgbfagjhdgaaGreatDoor
open Go Go.RowKit
attribute [local go_sem ↓] Go.wp_at_zero Go.wp_at_succ

theorem add_same {x y : Int} (h : decide (x < 0) = decide (y < 0)) : sg (decide (x < 0)) (x.natAbs + y.natAbs) = x + y := by
  unfold sg
  by_cases hx : x < 0
  · have hy : y < 0 := by rw [decide_eq_true hx] at h; exact of_decide_eq_true h.symm
    rw [decide_eq_true hx, if_pos rfl]; omega
  · have hy : ¬ y < 0 := by rw [decide_eq_false hx] at h; exact of_decide_eq_false h.symm
    rw [decide_eq_false hx, if_neg Bool.false_ne_true]; omega
theorem add_ge {x y : Int} (h : decide (x < 0) ≠ decide (y < 0)) (hge : y.natAbs ≤ x.natAbs) : sg (decide (x < 0)) (x.natAbs - y.natAbs) = x + y := by
  unfold sg
  by_cases hx : x < 0
  · have hy : ¬ y < 0 := fun hy => h (by rw [decide_eq_true hx, decide_eq_true hy])
    rw [decide_eq_true hx, if_pos rfl]; omega
  · have hy : y < 0 := by
      by_cases hy : y < 0
      · exact hy
      · exact absurd (by rw [decide_eq_false hx, decide_eq_false hy]) h
    rw [decide_eq_false hx, if_neg Bool.false_ne_true]; omega
theorem pow_two {x y k : Nat} (hx : x < D.B ^ k) (hy : y < D.B ^ k) : x + y < D.B ^ (k + 1) := by
  rw [D.pow_succ']
  have := Nat.mul_le_mul_left (D.B ^ k) D.B_two
  omega

set_option maxHeartbeats 1600000 in
set_option maxRecDepth 100000 in
theorem radd_same {w : World} {A A' : Option Addr} {l l' c c' X Y : Nat} {s : Bool} (hl : DL w A l X) (hl' : DL w A' l' Y) (hlk : l ≤ 50000) (hlk' : l' ≤ 50000) :
    Calls Tryz.prog 134 #[.agg #[.bool s, .slice A l c], .agg #[.bool s, .slice A' l' c']] w fun e w' => ∃ v, e = .returned (.agg #[.bool (decide (sg s (X + Y) < 0)), v]) ∧ DSz w' v (X + Y) ∧ Below w.heap.size w w' := by
  have H := Lib.hid (And.intro hl hl')
  clear hl hl'
  obtain ⟨s0, hs0⟩ : ∃ s0, s0 = decide (sg s (X + Y) < 0) := ⟨_, rfl⟩
  rw [← hs0]
  have HS := Lib.hid hs0
  clear hs0
  have hD := dbox3_two w s s (.slice A l c) (.slice A' l' c')
  have HD := Lib.hid hD
  clear hD
  go_enter Tryz.func134, Tryz.ntmps134
  go_wp2_with fail
  change Code.wp _ _ _ _ (dbox3 w s s (.slice A l c) (.slice A' l' c'))
  generalize dbox3 w s s (.slice A l c) (.slice A' l' c') = W0 at *
  have hD := HD.out.drew
  have c00 := HD.out.c00
  have c01 := HD.out.c01
  have c11 := HD.out.c11
  go_region_held3 (fun w' => w'.cell? ⟨w.heap.size, 0, none⟩ = some (.bool s) ∧ w'.cell? ⟨w.heap.size, 1, none⟩ = some (.slice A l c) ∧ w'.cell? ⟨w.heap.size + 1, 1, none⟩ = some (.slice A' l' c') ∧ DTwo w w' s s (.slice A l c) (.slice A' l' c'))
    (first | exact ⟨q3.c00, q3.c01, q3.c11, q3⟩ | exact ⟨q2.c00, q2.c01, q2.c11, q2⟩ | exact ⟨q1.c00, q1.c01, q1.c11, q1⟩ | exact ⟨hD.c00, hD.c01, hD.c11, hD⟩)
    (first
      | (go_at_call 187; go_split_ands; ((with_reducible refine (dplus_any c c' (H.out.1.below hD.below (Nat.le_refl _)) (H.out.2.below hD.below (Nat.le_refl _)) (by omega) (by omega)).mono ?_); rintro e w1 ⟨pv, rfl, ⟨A1, L1, c1, rfl, hv, hL1, hc1, hcm1⟩, hb1⟩; have q1 : DTwo w w1 s s (.slice A l c) (.slice A' l' c') := hD.op hb1; have HV := Lib.hid hv; clear hv))
      | (go_at_call 180; go_split_ands; ((with_reducible refine (trim_big s HV.out (by omega) hc1 hcm1).mono ?_); rw [← HS.out]; rintro e w2 ⟨tv, rfl, ⟨A2, L2, c2, rfl, hs2⟩, hb2⟩; have q2 : DTwo w w2 s s (.slice A l c) (.slice A' l' c') := q1.op hb2; have hs1 : DSz w2 (.slice A2 L2 c2) (X + Y) := ⟨A2, L2, c2, rfl, hs2⟩; obtain ⟨v0, r0⟩ := q2.r0; obtain ⟨v1, r1⟩ := q2.r1; have rf0 := q2.f2 0; have rf1 := q2.f2 1; have q3 := q2.res s0 A2 L2 c2; have HF := Lib.hid (And.intro (q2.done s0 A2 L2 c2) (hs1.far q2.b2 s0 (.slice A2 L2 c2))); clear hs1 hs2)))
  go_wp2
  change bodyPost _ _ _ _ _ (dres w2 (w.heap.size + 1 + 1) s0 (.slice A2 L2 c2))
  obtain ⟨⟨z0, z1, z2⟩, z3⟩ := HF.out
  generalize dres w2 (w.heap.size + 1 + 1) s0 (.slice A2 L2 c2) = W3 at *
  exact bodyPost_ret (v := .agg #[.bool s0, .slice A2 L2 c2]) (by simp [results, Tryz.results134, go_sem, z0, z1]) rfl ⟨_, rfl, z3, z2⟩

set_option maxHeartbeats 1600000 in
set_option maxRecDepth 100000 in
theorem radd_ge {w : World} {A A' : Option Addr} {l l' c c' X Y : Nat} {s t : Bool} (hst : s ≠ t) (hl : DL w A l X) (hl' : DL w A' l' Y) (hm : l = 0 ∨ D.B ^ (l - 1) ≤ X) (hm' : l' = 0 ∨ D.B ^ (l' - 1) ≤ Y) (hge : Y ≤ X) (h0 : 0 < l) (hlk : l ≤ 50000) (hlk' : l' ≤ 50000) :
    Calls Tryz.prog 134 #[.agg #[.bool s, .slice A l c], .agg #[.bool t, .slice A' l' c']] w fun e w' => ∃ v, e = .returned (.agg #[.bool (decide (sg s (X - Y) < 0)), v]) ∧ DSz w' v (X - Y) ∧ Below w.heap.size w w' := by
  have hd0 := dbox3_two w s t (.slice A l c) (.slice A' l' c')
  have hsz := dsize_any c c' (hl.below hd0.below (Nat.le_refl _)) (hl'.below hd0.below (Nat.le_refl _)) hm hm' (by omega) (by omega)
  have hcm1 : 0 ≤ cmpI X Y := by
    rcases Int.lt_trichotomy (X : Int) Y with h1 | h1 | h1
    · omega
    · rw [cmpI_eq h1]; omega
    · rw [cmpI_gt h1]; omega
  obtain ⟨m, hmm⟩ : ∃ m, m = cmpI X Y := ⟨_, rfl⟩
  rw [← hmm] at hsz hcm1
  have H := Lib.hid (And.intro hl (And.intro hl' (And.intro hge (And.intro hd0 hsz))))
  clear hl hl' hm hm' hge hd0 hsz hmm
  have hb : (s == t) = false := by cases s <;> cases t <;> simp_all
  obtain ⟨s0, hs0⟩ : ∃ s0, s0 = decide (sg s (X - Y) < 0) := ⟨_, rfl⟩
  rw [← hs0]
  have HS := Lib.hid hs0
  clear hs0 hst
  go_enter Tryz.func134, Tryz.ntmps134
  go_wp2_with fail
  change Calls _ _ _ (dbox3 w s t (.slice A l c) (.slice A' l' c')) _
  refine H.out.2.2.2.2.mono ?_
  rintro e W0 ⟨rfl, hdr⟩
  have hD0 : DTwo w W0 s t (.slice A l c) (.slice A' l' c') := by
    obtain ⟨j, rfl⟩ := hdr
    exact H.out.2.2.2.1.drewN j
  clear hdr
  have hD := hD0.drew
  have c00 := hD0.c00
  have c01 := hD0.c01
  have c11 := hD0.c11
  clear hD0
  go_wp2_with fail
  go_region_held3 (fun w' => w'.cell? ⟨w.heap.size, 0, none⟩ = some (.bool s) ∧ w'.cell? ⟨w.heap.size, 1, none⟩ = some (.slice A l c) ∧ w'.cell? ⟨w.heap.size + 1, 1, none⟩ = some (.slice A' l' c') ∧ DTwo w w' s t (.slice A l c) (.slice A' l' c'))
    (first | exact ⟨q3.c00, q3.c01, q3.c11, q3⟩ | exact ⟨q2.c00, q2.c01, q2.c11, q2⟩ | exact ⟨q1.c00, q1.c01, q1.c11, q1⟩ | exact ⟨hD.c00, hD.c01, hD.c11, hD⟩)
    (first
      | (go_at_call 183; go_split_ands; ((with_reducible refine (dminus_any c c' (H.out.1.below hD.below (Nat.le_refl _)) (H.out.2.1.below hD.below (Nat.le_refl _)) H.out.2.2.1 (by omega) (by omega) h0).mono ?_); rintro e w1 ⟨g, c1, rfl, ho, hb1, _⟩; have q1 : DTwo w w1 s t (.slice A l c) (.slice A' l' c') := hD.op hb1; have hcc : l ≤ c1 ∧ c1 ≤ maxLen := (by obtain ⟨_, _, h1, h2⟩ := ho.block; exact ⟨h1, h2⟩); have HV := Lib.hid (And.intro ho.limbs hcc); clear ho hcc))
      | (go_at_call 180; go_split_ands; ((with_reducible refine (trim_big s HV.out.1 (by omega) HV.out.2.1 HV.out.2.2).mono ?_); rw [← HS.out]; rintro e w2 ⟨tv, rfl, ⟨A2, L2, c2, rfl, hs2⟩, hb2⟩; have q2 : DTwo w w2 s t (.slice A l c) (.slice A' l' c') := q1.op hb2; have hs1 : DSz w2 (.slice A2 L2 c2) (X - Y) := ⟨A2, L2, c2, rfl, hs2⟩; obtain ⟨v0, r0⟩ := q2.r0; obtain ⟨v1, r1⟩ := q2.r1; have rf0 := q2.f2 0; have rf1 := q2.f2 1; have q3 := q2.res s0 A2 L2 c2; have HF := Lib.hid (And.intro (q2.done s0 A2 L2 c2) (hs1.far q2.b2 s0 (.slice A2 L2 c2))); clear hs1 hs2)))
  go_wp2
  change bodyPost _ _ _ _ _ (dres w2 (w.heap.size + 1 + 1) s0 (.slice A2 L2 c2))
  obtain ⟨⟨z0, z1, z2⟩, z3⟩ := HF.out
  generalize dres w2 (w.heap.size + 1 + 1) s0 (.slice A2 L2 c2) = W3 at *
  exact bodyPost_ret (v := .agg #[.bool s0, .slice A2 L2 c2]) (by simp [results, Tryz.results134, go_sem, z0, z1]) rfl ⟨_, rfl, z3, z2⟩

set_option maxHeartbeats 1600000 in
set_option maxRecDepth 100000 in
theorem radd_lt {w : World} {A A' : Option Addr} {l l' c c' X Y : Nat} {s t : Bool} (hst : s ≠ t) (hl : DL w A l X) (hl' : DL w A' l' Y) (hm : l = 0 ∨ D.B ^ (l - 1) ≤ X) (hm' : l' = 0 ∨ D.B ^ (l' - 1) ≤ Y) (hlt : X < Y) (hlk : l ≤ 50000) (hlk' : l' ≤ 50000) (hc' : l' ≤ c') :
    Calls Tryz.prog 134 #[.agg #[.bool s, .slice A l c], .agg #[.bool t, .slice A' l' c']] w fun e w' => ∃ v, e = .returned (.agg #[.bool (decide (sg t (Y - X) < 0)), v]) ∧ DSz w' v (Y - X) ∧ Below w.heap.size w w' := by
  have hd0 := dbox3_two w s t (.slice A l c) (.slice A' l' c')
  have hsz := dsize_any c c' (hl.below hd0.below (Nat.le_refl _)) (hl'.below hd0.below (Nat.le_refl _)) hm hm' (by omega) (by omega)
  rw [cmpI_lt (by omega : (X : Int) < Y)] at hsz
  have h0 : 0 < l' := by
    rcases Nat.eq_zero_or_pos l' with h1 | h1
    · subst h1; have := hl'.1; simp at this; omega
    · exact h1
  have H := Lib.hid (And.intro hl (And.intro hl' (And.intro (Nat.le_of_lt hlt) (And.intro hd0 hsz))))
  clear hl hl' hm hm' hlt hd0 hsz
  have hb : (s == t) = false := by cases s <;> cases t <;> simp_all
  obtain ⟨s0, hs0⟩ : ∃ s0, s0 = decide (sg t (Y - X) < 0) := ⟨_, rfl⟩
  rw [← hs0]
  have HS := Lib.hid hs0
  clear hs0 hst
  go_enter Tryz.func134, Tryz.ntmps134
  go_wp2_with fail
  change Calls _ _ _ (dbox3 w s t (.slice A l c) (.slice A' l' c')) _
  refine H.out.2.2.2.2.mono ?_
  rintro e W0 ⟨rfl, hdr⟩
  have hD0 : DTwo w W0 s t (.slice A l c) (.slice A' l' c') := by
    obtain ⟨j, rfl⟩ := hdr
    exact H.out.2.2.2.1.drewN j
  clear hdr
  have hD := hD0.drew
  have c10 := hD0.c10
  have c01 := hD0.c01
  have c11 := hD0.c11
  clear hD0
  go_wp2_with fail
  go_region_held3 (fun w' => w'.cell? ⟨w.heap.size + 1, 0, none⟩ = some (.bool t) ∧ w'.cell? ⟨w.heap.size, 1, none⟩ = some (.slice A l c) ∧ w'.cell? ⟨w.heap.size + 1, 1, none⟩ = some (.slice A' l' c') ∧ DTwo w w' s t (.slice A l c) (.slice A' l' c'))
    (first | exact ⟨q3.c10, q3.c01, q3.c11, q3⟩ | exact ⟨q2.c10, q2.c01, q2.c11, q2⟩ | exact ⟨q1.c10, q1.c01, q1.c11, q1⟩ | exact ⟨hD.c10, hD.c01, hD.c11, hD⟩)
    (first
      | (go_at_call 183; go_split_ands; ((with_reducible refine (dminus_any c' c (H.out.2.1.below hD.below (Nat.le_refl _)) (H.out.1.below hD.below (Nat.le_refl _)) H.out.2.2.1 (by omega) (by omega) h0).mono ?_); rintro e w1 ⟨g, c1, rfl, ho, hb1, _⟩; have q1 : DTwo w w1 s t (.slice A l c) (.slice A' l' c') := hD.op hb1; have hcc : l' ≤ c1 ∧ c1 ≤ maxLen := (by obtain ⟨_, _, h1, h2⟩ := ho.block; exact ⟨h1, h2⟩); have HV := Lib.hid (And.intro ho.limbs hcc); clear ho hcc))
      | (go_at_call 180; go_split_ands; ((with_reducible refine (trim_big t HV.out.1 (by omega) HV.out.2.1 HV.out.2.2).mono ?_); rw [← HS.out]; rintro e w2 ⟨tv, rfl, ⟨A2, L2, c2, rfl, hs2⟩, hb2⟩; have q2 : DTwo w w2 s t (.slice A l c) (.slice A' l' c') := q1.op hb2; have hs1 : DSz w2 (.slice A2 L2 c2) (Y - X) := ⟨A2, L2, c2, rfl, hs2⟩; obtain ⟨v0, r0⟩ := q2.r0; obtain ⟨v1, r1⟩ := q2.r1; have rf0 := q2.f2 0; have rf1 := q2.f2 1; have q3 := q2.res s0 A2 L2 c2; have HF := Lib.hid (And.intro (q2.done s0 A2 L2 c2) (hs1.far q2.b2 s0 (.slice A2 L2 c2))); clear hs1 hs2)))
  go_wp2
  change bodyPost _ _ _ _ _ (dres w2 (w.heap.size + 1 + 1) s0 (.slice A2 L2 c2))
  obtain ⟨⟨z0, z1, z2⟩, z3⟩ := HF.out
  generalize dres w2 (w.heap.size + 1 + 1) s0 (.slice A2 L2 c2) = W3 at *
  exact bodyPost_ret (v := .agg #[.bool s0, .slice A2 L2 c2]) (by simp [results, Tryz.results134, go_sem, z0, z1]) rfl ⟨_, rfl, z3, z2⟩

theorem radd_any {w : World} {u v : Value} {x y : Int} {k : Nat} (hx : DBig w u x) (hy : DBig w v y) (bx : x.natAbs < D.B ^ k) (by_ : y.natAbs < D.B ^ k) (hk : k ≤ 40000) :
    Calls Tryz.prog 134 #[u, v] w fun e w' => ∃ v, e = .returned v ∧ DBig w' v (x + y) ∧ Below w.heap.size w w' := by
  obtain ⟨A, l, c, rfl, hl, hm, hc, hcm, hlk⟩ := hx.open_ bx
  obtain ⟨A', l', c', rfl, hl', hm', hc', hcm', hlk'⟩ := hy.open_ by_
  have fin : ∀ (b : Bool) (N : Nat), sg b N = x + y → ∀ (w' : World) (v : Value), DSz w' v N → DBig w' (.agg #[.bool (decide (sg b N < 0)), v]) (x + y) := by
    intro b N hN w' v hs
    rw [← hN]
    exact DSz.big (by rw [sg_abs]; exact hs)
  by_cases hs : decide (x < 0) = decide (y < 0)
  · have e := add_same hs
    rw [← hs]
    refine (radd_same (s := decide (x < 0)) hl hl' (by omega) (by omega)).mono ?_
    rintro e1 w' ⟨v, rfl, hv, hb⟩
    exact ⟨_, rfl, fin _ _ e _ _ hv, hb⟩
  · by_cases hge : y.natAbs ≤ x.natAbs
    · have e := add_ge hs hge
      have h0 : 0 < l := by
        rcases Nat.eq_zero_or_pos l with h1 | h1
        · exfalso
          subst h1
          have h2 := hl.1
          simp at h2
          have : y = 0 := by omega
          subst this
          subst h2
          exact hs rfl
        · exact h1
      refine (radd_ge hs hl hl' hm hm' hge h0 (by omega) (by omega)).mono ?_
      rintro e1 w' ⟨v, rfl, hv, hb⟩
      exact ⟨_, rfl, fin _ _ e _ _ hv, hb⟩
    · have e := add_ge (x := y) (y := x) (fun h => hs h.symm) (by omega)
      rw [Int.add_comm] at e
      refine (radd_lt hs hl hl' hm hm' (by omega) (by omega) (by omega) hc').mono ?_
      rintro e1 w' ⟨v, rfl, hv, hb⟩
      exact ⟨_, rfl, fin _ _ e _ _ hv, hb⟩

set_option maxHeartbeats 1600000 in
set_option maxRecDepth 100000 in
theorem rsub_any {w : World} {u v : Value} {x y : Int} {k : Nat} (hx : DBig w u x) (hy : DBig w v y) (bx : x.natAbs < D.B ^ k) (by_ : y.natAbs < D.B ^ k) (hk : k ≤ 40000) :
    Calls Tryz.prog 135 #[u, v] w fun e w' => ∃ v, e = .returned v ∧ DBig w' v (x - y) ∧ Below w.heap.size w w' := by
  have H := Lib.hid (And.intro hx (And.intro hy (And.intro bx (show (-y).natAbs < D.B ^ k by rw [Int.natAbs_neg]; exact by_))))
  obtain ⟨A, l, c, rfl, hl, hm, hc, hcm, hlk⟩ := hx.open_ bx
  obtain ⟨A', l', c', rfl, hl', hm', hc', hcm', hlk'⟩ := hy.open_ by_
  clear hl hl' hm hm' hx hy bx by_ hc hc' hcm hcm' hlk hlk'
  obtain ⟨s, hs⟩ : ∃ s, s = decide (x < 0) := ⟨_, rfl⟩
  obtain ⟨t, ht⟩ : ∃ t, t = decide (y < 0) := ⟨_, rfl⟩
  rw [← hs, ← ht] at H ⊢
  clear hs ht
  have hD0 := dbox3_two w s t (.slice A l c) (.slice A' l' c')
  have HD := Lib.hid hD0
  clear hD0
  obtain ⟨s0, hs0⟩ : ∃ s0, s0 = decide (x - y < 0) := ⟨_, rfl⟩
  obtain ⟨m, hm⟩ : ∃ m, m = decide (-y < 0) := ⟨_, rfl⟩
  have HS := Lib.hid hs0
  have HM := Lib.hid hm
  clear hs0 hm
  go_enter Tryz.func135, Tryz.ntmps135
  go_wp2_with fail
  change Code.wp _ _ _ _ (dbox3 w s t (.slice A l c) (.slice A' l' c'))
  generalize dbox3 w s t (.slice A l c) (.slice A' l' c') = W0 at *
  have hD := HD.out.drew
  have c00 := HD.out.c00
  have c01 := HD.out.c01
  have c10 := HD.out.c10
  have c11 := HD.out.c11
  go_region_held3 (fun w' => w'.cell? ⟨w.heap.size, 0, none⟩ = some (.bool s) ∧ w'.cell? ⟨w.heap.size, 1, none⟩ = some (.slice A l c) ∧ w'.cell? ⟨w.heap.size + 1, 0, none⟩ = some (.bool t) ∧ w'.cell? ⟨w.heap.size + 1, 1, none⟩ = some (.slice A' l' c') ∧ DTwo w w' s t (.slice A l c) (.slice A' l' c'))
    (first | exact ⟨q3.c00, q3.c01, q3.c10, q3.c11, q3⟩ | exact ⟨q2.c00, q2.c01, q2.c10, q2.c11, q2⟩ | exact ⟨q1.c00, q1.c01, q1.c10, q1.c11, q1⟩ | exact ⟨hD.c00, hD.c01, hD.c10, hD.c11, hD⟩)
    (first
      | (go_at_call 128; go_split_ands; ((with_reducible refine (rneg_any (H.out.2.1.below hD.below (Nat.le_refl _))).mono ?_); rw [← HM.out]; rintro e w1 ⟨nv, rfl, hn, hb1⟩; have q1 : DTwo w w1 s t (.slice A l c) (.slice A' l' c') := hD.op hb1; have HV := Lib.hid (HM.out.symm ▸ DSz.big (z := -y) (by rw [Int.natAbs_neg]; exact hn) : DBig w1 (.agg #[.bool m, nv]) (-y)); clear hn))
      | (go_at_call 134; go_split_ands; ((with_reducible refine (radd_any (H.out.1.below q1.below (Nat.le_refl _)) HV.out H.out.2.2.1 H.out.2.2.2 hk).mono ?_); rw [← Int.sub_eq_add_neg]; rintro e w2 ⟨tv, rfl, ⟨A2, L2, c2, rfl, hs2⟩, hb2⟩; have q2 : DTwo w w2 s t (.slice A l c) (.slice A' l' c') := q1.op hb2; have hs1 : DSz w2 (.slice A2 L2 c2) (x - y).natAbs := ⟨A2, L2, c2, rfl, hs2⟩; obtain ⟨v0, r0⟩ := q2.r0; obtain ⟨v1, r1⟩ := q2.r1; have rf0 := q2.f2 0; have rf1 := q2.f2 1; rw [← HS.out]; have q3 := q2.res s0 A2 L2 c2; have HF := Lib.hid (And.intro (q2.done s0 A2 L2 c2) (hs1.far q2.b2 s0 (.slice A2 L2 c2))); clear hs1 hs2)))
  go_wp2
  change bodyPost _ _ _ _ _ (dres w2 (w.heap.size + 1 + 1) s0 (.slice A2 L2 c2))
  obtain ⟨⟨z0, z1, z2⟩, z3⟩ := HF.out
  generalize dres w2 (w.heap.size + 1 + 1) s0 (.slice A2 L2 c2) = W3 at *
  exact bodyPost_ret (v := .agg #[.bool s0, .slice A2 L2 c2]) (by simp [results, Tryz.results135, go_sem, z0, z1]) rfl ⟨_, rfl, by rw [HS.out]; exact z3.big, z2⟩
end Go.Proofs.YtjghgbfagjhdgaaGreatDoor
namespace Go.Proofs.YtjghgbfagjhdgaaGreatDoor
open Go Go.RowKit

/-- Two numbers as arguments, and two results' blocks behind them. -/
structure DFour (w0 w : World) (s t : Bool) (u v : Value) : Prop where
  b0 : w.heap[w0.heap.size]? = some (.cells #[.bool s, u] 94 (0, 0))
  b1 : w.heap[w0.heap.size + 1]? = some (.cells #[.bool t, v] 94 (0, 0))
  b2 : ∃ (x : Bool) (A : Option Addr) (L c : Nat), w.heap[w0.heap.size + 1 + 1]? = some (.cells #[.bool x, .slice A L c] 94 (0, 0))
  b3 : ∃ (x : Bool) (A : Option Addr) (L c : Nat), w.heap[w0.heap.size + 1 + 1 + 1]? = some (.cells #[.bool x, .slice A L c] 94 (0, 0))
  below : Below w0.heap.size w0 w
def dbox4 (w : World) (s t : Bool) (u v : Value) : World := (dbox3 w s t u v).alloc (.cells #[.bool false, .slice none 0 0] 94)
theorem dbox4_four (w : World) (s t : Bool) (u v : Value) : DFour w (dbox4 w s t u v) s t u v := by
  have h := dbox3_two w s t u v
  have e : (dbox3 w s t u v).heap.size = w.heap.size + 1 + 1 + 1 := by simp [dbox3]
  have h3 := heap_alloc_new (dbox3 w s t u v) (.cells #[.bool false, .slice none 0 0] 94)
  rw [e] at h3
  have ho := h.alloc (.cells #[.bool false, .slice none 0 0] 94)
  exact ⟨ho.b0, ho.b1, ho.b2, ⟨false, none, 0, 0, h3⟩, ho.below⟩
section
variable {w0 w w' : World} {s t : Bool} {u v : Value}
theorem DFour.size (h : DFour w0 w s t u v) : w0.heap.size + 4 ≤ w.heap.size := by
  obtain ⟨x, A, L, c, h2⟩ := h.b3
  have := lt_of_block h2
  omega
theorem DFour.c00 (h : DFour w0 w s t u v) : w.cell? ⟨w0.heap.size, 0, none⟩ = some (.bool s) := by simp [World.cell?, h.b0]
theorem DFour.c01 (h : DFour w0 w s t u v) : w.cell? ⟨w0.heap.size, 1, none⟩ = some u := by simp [World.cell?, h.b0]
theorem DFour.c10 (h : DFour w0 w s t u v) : w.cell? ⟨w0.heap.size + 1, 0, none⟩ = some (.bool t) := by simp [World.cell?, h.b1]
theorem DFour.c11 (h : DFour w0 w s t u v) : w.cell? ⟨w0.heap.size + 1, 1, none⟩ = some v := by simp [World.cell?, h.b1]
theorem DFour.f2 (h : DFour w0 w s t u v) (i : Nat) : w.frozen? ⟨w0.heap.size + 1 + 1, i, none⟩ = false := by
  obtain ⟨x, A, L, c, h2⟩ := h.b2
  simp [World.frozen?, h2]
theorem DFour.f3 (h : DFour w0 w s t u v) (i : Nat) : w.frozen? ⟨w0.heap.size + 1 + 1 + 1, i, none⟩ = false := by
  obtain ⟨x, A, L, c, h2⟩ := h.b3
  simp [World.frozen?, h2]
theorem DFour.r20 (h : DFour w0 w s t u v) : ∃ x, w.cell? ⟨w0.heap.size + 1 + 1, 0, none⟩ = some x := by
  obtain ⟨x, A, L, c, h2⟩ := h.b2
  exact ⟨.bool x, by simp [World.cell?, h2]⟩
theorem DFour.r21 (h : DFour w0 w s t u v) : ∃ x, w.cell? ⟨w0.heap.size + 1 + 1, 1, none⟩ = some x := by
  obtain ⟨x, A, L, c, h2⟩ := h.b2
  exact ⟨.slice A L c, by simp [World.cell?, h2]⟩
theorem DFour.r30 (h : DFour w0 w s t u v) : ∃ x, w.cell? ⟨w0.heap.size + 1 + 1 + 1, 0, none⟩ = some x := by
  obtain ⟨x, A, L, c, h2⟩ := h.b3
  exact ⟨.bool x, by simp [World.cell?, h2]⟩
theorem DFour.r31 (h : DFour w0 w s t u v) : ∃ x, w.cell? ⟨w0.heap.size + 1 + 1 + 1, 1, none⟩ = some x := by
  obtain ⟨x, A, L, c, h2⟩ := h.b3
  exact ⟨.slice A L c, by simp [World.cell?, h2]⟩
theorem DFour.next (h : DFour w0 w s t u v) {B : Nat} (hb : Below B w w') (hB : w0.heap.size + 4 ≤ B) : DFour w0 w' s t u v := by
  obtain ⟨x, A, L, c, h2⟩ := h.b2
  obtain ⟨x3, A3, L3, c3, h3⟩ := h.b3
  exact ⟨(hb.block _ (by omega)).trans h.b0, (hb.block _ (by omega)).trans h.b1, ⟨x, A, L, c, (hb.block _ (by omega)).trans h2⟩, ⟨x3, A3, L3, c3, (hb.block _ (by omega)).trans h3⟩, h.below.trans (hb.mono (by omega))⟩
theorem DFour.op (h : DFour w0 w s t u v) (hb : Below w.heap.size w w') : DFour w0 w' s t u v := h.next hb h.size
theorem DFour.drew (h : DFour w0 w s t u v) : DFour w0 w.drew s t u v := ⟨h.b0, h.b1, h.b2, h.b3, h.below.drew⟩
theorem DFour.drewN (h : DFour w0 w s t u v) (k : Nat) : DFour w0 (w.drewN k) s t u v := ⟨h.b0, h.b1, h.b2, h.b3, ⟨h.below.os, h.below.tape, h.below.output, h.below.size, h.below.block⟩⟩
theorem DFour.drawn (h : DFour w0 w s t u v) (hd : Drawn w w') : DFour w0 w' s t u v := by
  obtain ⟨k, rfl⟩ := hd
  exact h.drewN k
theorem DFour.far (h : DFour w0 w s t u v) {p : Addr} (hp : w0.heap.size + 4 ≤ p.block) (r : Value) : DFour w0 (w.setCell p r) s t u v := by
  obtain ⟨x, A, L, c, hr⟩ := h.b2
  obtain ⟨x3, A3, L3, c3, h3⟩ := h.b3
  exact ⟨(Below.heap_setCell _ _ _ _ (by omega)).trans h.b0, (Below.heap_setCell _ _ _ _ (by omega)).trans h.b1, ⟨x, A, L, c, (Below.heap_setCell _ _ _ _ (by omega)).trans hr⟩, ⟨x3, A3, L3, c3, (Below.heap_setCell _ _ _ _ (by omega)).trans h3⟩, h.below.setCell (by omega) _⟩
theorem DFour.alloc (h : DFour w0 w s t u v) (o : Obj) : DFour w0 (w.alloc o) s t u v := h.op ((Below.refl _ _).alloc (Nat.le_refl _) _)
theorem DFour.res2 (h : DFour w0 w s t u v) (b : Bool) (A : Option Addr) (L c : Nat) : DFour w0 (dres w (w0.heap.size + 1 + 1) b (.slice A L c)) s t u v := by
  obtain ⟨x, A', L', c', hr⟩ := h.b2
  obtain ⟨x3, A3, L3, c3, h3⟩ := h.b3
  refine ⟨?_, ?_, ⟨b, A, L, c, ?_⟩, ⟨x3, A3, L3, c3, ?_⟩, (h.below.setCell (by simp; omega) _).setCell (by simp; omega) _⟩
  · exact (Below.heap_setCell _ _ _ _ (by simp; omega)).trans ((Below.heap_setCell _ _ _ _ (by simp; omega)).trans h.b0)
  · exact (Below.heap_setCell _ _ _ _ (by simp)).trans ((Below.heap_setCell _ _ _ _ (by simp)).trans h.b1)
  · simp [dres, World.setCell, Array.getElem?_modify, hr]
  · exact (Below.heap_setCell _ _ _ _ (by simp)).trans ((Below.heap_setCell _ _ _ _ (by simp)).trans h3)
theorem DFour.res3 (h : DFour w0 w s t u v) (b : Bool) (A : Option Addr) (L c : Nat) : DFour w0 (dres w (w0.heap.size + 1 + 1 + 1) b (.slice A L c)) s t u v := by
  obtain ⟨x, A', L', c', hr⟩ := h.b2
  obtain ⟨x3, A3, L3, c3, h3⟩ := h.b3
  refine ⟨?_, ?_, ⟨x, A', L', c', ?_⟩, ⟨b, A, L, c, ?_⟩, (h.below.setCell (by simp; omega) _).setCell (by simp; omega) _⟩
  · exact (Below.heap_setCell _ _ _ _ (by simp; omega)).trans ((Below.heap_setCell _ _ _ _ (by simp; omega)).trans h.b0)
  · exact (Below.heap_setCell _ _ _ _ (by simp)).trans ((Below.heap_setCell _ _ _ _ (by simp)).trans h.b1)
  · exact (Below.heap_setCell _ _ _ _ (by simp)).trans ((Below.heap_setCell _ _ _ _ (by simp)).trans hr)
  · simp [dres, World.setCell, Array.getElem?_modify, h3]
theorem dres_cells {r : Nat} (hr : ∃ (x : Bool) (A : Option Addr) (L c : Nat), w.heap[r]? = some (.cells #[.bool x, .slice A L c] 94 (0, 0))) (b : Bool) (v : Value) :
    (dres w r b v).cell? ⟨r, 0, none⟩ = some (.bool b) ∧ (dres w r b v).cell? ⟨r, 1, none⟩ = some v := by
  obtain ⟨x, A, L, c, hr⟩ := hr
  constructor
  · simp [dres, World.cell?, World.setCell, Array.getElem?_modify, hr]
  · simp [dres, World.cell?, World.setCell, Array.getElem?_modify, hr]
theorem dres_other {r q i : Nat} (hne : q ≠ r) (b : Bool) (v : Value) : (dres w r b v).cell? ⟨q, i, none⟩ = w.cell? ⟨q, i, none⟩ := by
  unfold dres
  rw [World.cell?_setCell_other _ _ _ _ (fun e => hne (by injection e with e; exact e.symm)), World.cell?_setCell_other _ _ _ _ (fun e => hne (by injection e with e; exact e.symm))]
end

theorem D.dg_front (d R i : Nat) (hd : d < D.B) : D.dg (d + R * D.B) 0 = d ∧ D.dg (d + R * D.B) (i + 1) = D.dg R i := by
  constructor
  · unfold D.dg
    rw [Nat.pow_zero, Nat.div_one, Nat.add_mul_mod_self_right, Nat.mod_eq_of_lt hd]
  · unfold D.dg
    rw [show D.B ^ (i + 1) = D.B * D.B ^ i by rw [D.pow_succ', Nat.mul_comm], ← Nat.div_div_eq_div_mul, Nat.add_mul_div_right _ _ D.B_pos, Nat.div_eq_of_lt hd, Nat.zero_add]
theorem ddigs_front (L d R : Nat) (hd : d < D.B) : [Value.int .i64 (d : Int)] ++ ddigs L R = ddigs (L + 1) (d + R * D.B) := by
  apply List.ext_getElem?
  intro j
  match j with
  | 0 => rw [ddigs_get (by omega), (D.dg_front d R 0 hd).1]; rfl
  | j + 1 =>
    rw [List.singleton_append, List.getElem?_cons_succ]
    by_cases hj : j < L
    · rw [ddigs_get hj, ddigs_get (by omega), (D.dg_front d R j hd).2]
    · rw [List.getElem?_eq_none (by rw [ddigs_length]; omega), List.getElem?_eq_none (by rw [ddigs_length]; omega)]
theorem D.front_lt {d R L : Nat} (hd : d < D.B) (hR : R < D.B ^ L) : d + R * D.B < D.B ^ (L + 1) := by
  rw [D.pow_succ']
  have := Nat.mul_le_mul_right D.B (show R + 1 ≤ D.B ^ L from hR)
  rw [Nat.add_mul] at this
  omega
theorem run_app_none (w : World) (g n cap : Nat) (xs : List Value) (c : Nat) (h : w.ownsRow g 3 1 (.slice (some ⟨g, 0, none⟩) n cap) n xs) (ty : TypeId) :
    (Builtin.append_ #[22, 22] ty #[.slice (some ⟨g, 0, none⟩) n cap, .slice none 0 c]).run Tryz.prog w = .ok (.slice (some ⟨g, 0, none⟩) n cap) w := by
  obtain ⟨i, hi, hz, hs, hb⟩ := info_parts info64
  rcases h.2 with ⟨h', _⟩ | ⟨g', cap', cur, h', _, _, hnc, _⟩
  · simp at h'
  · simp only [Value.slice.injEq, Option.some.injEq, Addr.mk.injEq, and_true, true_and] at h'
    obtain ⟨rfl, rfl⟩ := h'
    simp [Builtin.append_, run_underlying Tryz.underlying22, sizeOf, typeInfo, hi, Builtin.lenOf, Builtin.firstCells, hnc, storeCells]
/-- A limb put in front of a size. -/
theorem run_front {wr : World} {A : Option Addr} {d R L : Nat} (c : Nat) (hR : DL wr A L R) (hd : d < D.B) (hL : L ≤ 60000) (ty : TypeId) :
    ∃ g cap w', (Builtin.append_ #[22, 22] ty #[.slice (some ⟨wr.heap.size, 0, none⟩) 1 1, .slice A L c]).run Tryz.prog (wr.alloc (.cells #[.int .i64 (d : Int)] 3)) = .ok (.slice (some ⟨g, 0, none⟩) (L + 1) cap) w' ∧
      DOwn w' g (L + 1) cap (d + R * D.B) ∧ Below wr.heap.size wr w' ∧ wr.heap.size ≤ g := by
  obtain ⟨i, hi, hz, hs, hb⟩ := info_parts info64
  have hown : (wr.alloc (.cells #[.int .i64 (d : Int)] 3)).ownsRow wr.heap.size 3 1 (.slice (some ⟨wr.heap.size, 0, none⟩) 1 1) 1 [.int .i64 (d : Int)] :=
    World.ownsRow_lit wr #[.int .i64 (d : Int)] 1 (Nat.le_refl _) (by unfold maxLen; omega) rfl
  have hB : Below wr.heap.size wr (wr.alloc (.cells #[.int .i64 (d : Int)] 3)) := (Below.refl _ _).alloc (Nat.le_refl _) _
  have hfr := ddigs_front L d R hd
  have hlt := D.front_lt hd hR.1
  rcases A with _ | a
  · have h0 : L = 0 := by
      rcases Nat.eq_zero_or_pos L with h0 | h0
      · exact h0
      · obtain ⟨b, off, e, _⟩ := hR.2 h0
        cases e
    subst h0
    have hR0 : R = 0 := by have := hR.1; simp at this; omega
    subst hR0
    refine ⟨wr.heap.size, 1, _, run_app_none _ _ 1 1 _ c hown ty, ⟨?_, hlt⟩, hB, Nat.le_refl _⟩
    rw [← hfr]
    exact hown
  · have hcell : ∀ j u, (ddigs L R)[j]? = some u → (wr.alloc (.cells #[.int .i64 (d : Int)] 3)).cell? (a.add j) = some u := by
      intro j u hj
      have hjl : j < L := by
        rcases Nat.lt_or_ge j L with h1 | h1
        · exact h1
        · rw [List.getElem?_eq_none (by rw [ddigs_length]; omega)] at hj; cases hj
      obtain ⟨b, off, e, hbw, hc⟩ := hR.2 (by omega)
      obtain rfl : a = ⟨b, off, none⟩ := Option.some.inj e
      rw [ddigs_get hjl] at hj
      have hj := Option.some.inj hj
      subst hj
      rw [show ((⟨b, off, none⟩ : Addr).add j) = ⟨b, off + j, none⟩ by unfold Addr.add; split <;> simp_all]
      exact (hB.cell (p := ⟨b, off + j, none⟩) hbw).trans (hc j hjl)
    obtain ⟨v', w', hr, h2, h3, h4⟩ := run_append_own (P := Tryz.prog) (wr.alloc (.cells #[.int .i64 (d : Int)] 3)) wr.heap.size 22 ty 3 i (.int .i64 0) 1 8 Tryz.underlying22 hi hz hs hb rfl (by decide) _ 1 _ hown a L c (ddigs L R) (by rw [ddigs_length]; omega) hcell (by intro u hu; obtain ⟨j, _, rfl⟩ := List.mem_map.1 hu; rfl) (by unfold maxLen; omega) (by omega) hB.size
    rw [hfr, Nat.add_comm 1 L] at h2
    rcases h2.2 with ⟨_, e⟩ | ⟨g, cap, cur, rfl, hbg, hg, h5, h6, h7, h8⟩
    · omega
    · exact ⟨g, cap, w', hr, ⟨⟨h2.1, .inr ⟨g, cap, cur, rfl, Nat.le_refl _, hg, h5, h6, h7, h8⟩⟩, hlt⟩, hB.grown h3 hB.size (by intro k hk; exact Nat.le_of_eq (Option.some.inj hk)), hbg⟩
theorem wpList_front {wr : World} {A : Option Addr} {d R L c : Nat} {ops : Array Oper} {rest : List Oper} {o : Oper} {a : Act} {Q : Exit → Act → World → Prop} (hgd : o.guard = none) (s x : Operand)
    (ho : o.op = .call { callee := .builtin .append, args := #[s, x], argTypes := #[22, 22] })
    (hs : a.eval s = .slice (some ⟨wr.heap.size, 0, none⟩) 1 1) (hx : a.eval x = .slice A L c) (hR : DL wr A L R) (hd : d < D.B) (hL : L ≤ 60000)
    (h : ∀ g cap w', DOwn w' g (L + 1) cap (d + R * D.B) → Below wr.heap.size wr w' → wr.heap.size ≤ g → wpList Tryz.prog ops Q rest (a.put o.dst (.slice (some ⟨g, 0, none⟩) (L + 1) cap)) w') :
    wpList Tryz.prog ops Q (o :: rest) a (wr.alloc (.cells #[.int .i64 (d : Int)] 3)) := by
  refine wpList_plain hgd fun K hK => ?_
  obtain ⟨g, cap, w', hrun, ho1, hb1, hg1⟩ := run_front c hR hd hL o.type
  unfold Oper.wp
  simp [execOp, ho, resolve, invoke, builtin, hs, hx, hrun, Result.andThen]
  exact hK _ _ (h g cap w' ho1 hb1 hg1)
end Go.Proofs.YtjghgbfagjhdgaaGreatDoor
