/- Package schema: Check, whole. Package schema: Check itself. Package schema: the look-ups. Package schema: Uses, Joined, Linked, Find, Numbers; the lists of ints that the laws compare. -/
import Derived.Test.YtiakgcaflnpmeaaSchP
import Derived.Deep.RegionHeld3
import Derived.Maps.AppendAt
import Derived.Laws.OwnMore
namespace Go.Proofs.Ytiakgcaflnpmeaa
open Go Go.RowKit

/-- The four cells of a schema's box. -/
structure Box4 (w : World) (B : Nat) (S : Sc) (V : Sv) : Prop where
  c0 : w.cell? ⟨B, 0, none⟩ = some (.slice V.A S.na V.ca)
  c1 : w.cell? ⟨B, 1, none⟩ = some (.slice V.R S.nr V.cr)
  c2 : w.cell? ⟨B, 2, none⟩ = some (.slice V.F S.nf V.cf)
  c3 : w.cell? ⟨B, 3, none⟩ = some (.int .i64 S.label)
  lt : B < w.heap.size
theorem Box4.below {w w' : World} {B : Nat} {S : Sc} {V : Sv} (h : Box4 w B S V) (hb : Below w.heap.size w w') : Box4 w' B S V :=
  ⟨(hb.cell h.lt).trans h.c0, (hb.cell h.lt).trans h.c1, (hb.cell h.lt).trans h.c2, (hb.cell h.lt).trans h.c3, Nat.lt_of_lt_of_le h.lt hb.size⟩
theorem Box4.new {w : World} {S : Sc} {V : Sv} : Box4 (w.alloc (.cells #[.slice V.A S.na V.ca, .slice V.R S.nr V.cr, .slice V.F S.nf V.cf, .int .i64 S.label] 28)) w.heap.size S V :=
  ⟨by simp, by simp, by simp, by simp, by simp⟩
set_option maxHeartbeats 3200000 in
set_option maxRecDepth 100000 in
theorem used_any {w : World} {S : Sc} {V : Sv} (h : SchIn w S V) :
    Calls Try.prog 54 #[.agg #[.slice V.A S.na V.ca, .slice V.R S.nr V.cr, .slice V.F S.nf V.cf, .int .i64 S.label]] w fun e w' => e = .returned (.bool (!unusedB S)) ∧ Below w.heap.size w w' := by
  have hna := h.na
  have hnr := h.nr
  have hg : Below w.heap.size w (w.alloc (.cells #[.slice V.A S.na V.ca, .slice V.R S.nr V.cr, .slice V.F S.nf V.cf, .int .i64 S.label] 28)) := (Below.refl _ _).alloc (Nat.le_refl _) _
  have H := Lib.hid (And.intro h hg)
  clear h hg
  go_enter Try.func54, Try.ntmps54
  go_wp2_with fail
  go_loopg [7] S.na (fun gg s7 wr => ∃ i : Nat, i + gg = S.na ∧ s7 = .int .i64 (i : Int) ∧ Hid (Below w.heap.size w wr ∧ Box4 wr w.heap.size S V ∧ ∀ j, j < i → usedB S (j : Int) = true))
  case atStart => exact ⟨0, by omega, rfl, Lib.hid ⟨H.out.2, Box4.new, fun _ h => absurd h (by omega)⟩⟩
  case round =>
    obtain ⟨i, hi, rfl, HR⟩ := hrel
    by_cases hlt : i < S.na
    · have hg : Below wr.heap.size wr (wr.alloc (.cells #[.int .i64 (i : Int)] 3)) := (Below.refl _ _).alloc (Nat.le_refl _) _
      have hi1 := H.out.1.below (Below.step HR.out.1 hg)
      have c1 := (HR.out.2.1.below hg).c1
      have hx : LInts (wr.alloc (.cells #[.int .i64 (i : Int)] 3)) S.nr V.L S.rn S.rat := hi1.ints
      have hp := pred_used (W := wr.alloc (.cells #[.int .i64 (i : Int)] 3)) (B := wr.heap.size) (n := S.nr) (a := (i : Int)) (f := S.rname) (by simp) (by simp) hx
      have HI := Lib.hid (And.intro hi1.rel (And.intro hp hg))
      clear hi1 hx hp hg
      have hBw : w.heap.size < wr.heap.size := HR.out.2.1.lt
      have d1 := HR.out.2.1.c1
      go_wp2_with fail
      refine (any_rel (p := fun j => anyB (S.rn j) fun k => decide ((i : Int) = S.rat j k)) eg_used hnr HI.out.1 HI.out.2.1).mono ?_
      rintro e w2 ⟨rfl, hb⟩
      have HB := Lib.hid (Below.step HI.out.2.2 hb)
      clear hb c1 d1
      cases hu : anyB S.nr (fun j => anyB (S.rn j) fun k => decide ((i : Int) = S.rat j k)) with
      | true =>
        have HU := Lib.hid (show usedB S (i : Int) = true from hu)
        clear hu
        go_wp2
        go_roundg (S.na - (i + 1))
        case measure => omega
        case rel => exact ⟨i + 1, by omega, by go_num, Lib.hid ⟨Below.step HR.out.1 HB.out, HR.out.2.1.below HB.out, fun j hj => by
          by_cases e : j = i
          · rw [e]; exact HU.out
          · exact HR.out.2.2 j (by omega)⟩⟩
      | false =>
        have HU := Lib.hid (show usedB S (i : Int) = false from hu)
        clear hu
        go_wp2
        go_ret
        exact ⟨ret_b (show (!unusedB S) = false by unfold unusedB; rw [anyB_hit hlt (by rw [HU.out]; rfl)]; rfl), Below.step HR.out.1 HB.out⟩
    · have ein : S.na = i := by omega
      have HF := Lib.hid (show (!unusedB S) = true by unfold unusedB; rw [anyB_false.2 fun j hj => by rw [HR.out.2.2 j (by omega)]; rfl]; rfl)
      rw [ein]
      go_wp2
      go_ret
      exact ⟨ret_b HF.out, HR.out.1⟩
set_option maxHeartbeats 1600000 in
theorem suits_any {w : World} (a k m d : Int) :
    Calls Try.prog 79 #[.agg #[.int .i64 a, .int .i64 k, .int .i64 m], .int .i64 d] w fun e w' => e = .returned (.bool (suitsB k m d)) ∧ Below w.heap.size w w' := by
  by_cases h1 : k = 1
  · subst h1
    by_cases h2 : d = 2
    · subst h2
      by_cases h3 : m = 0
      · subst h3
        go_enter Try.func79, Try.ntmps79
        go_wp2
        go_ret
        exact ⟨rfl, by go_grown⟩
      · have h3b : (m == 0) = false := beq_eq_false_iff_ne.2 h3
        by_cases h4 : m = 1
        · subst h4
          go_enter Try.func79, Try.ntmps79
          go_wp2
          go_ret
          exact ⟨rfl, by go_grown⟩
        · have h4b : (m == 1) = false := beq_eq_false_iff_ne.2 h4
          have HS := Lib.hid (show suitsB 1 m 2 = false by unfold suitsB; rw [if_pos rfl, decide_eq_false h3, decide_eq_false h4]; rfl)
          clear h3 h4
          go_enter Try.func79, Try.ntmps79
          go_wp2
          go_ret
          exact ⟨ret_b HS.out, by go_grown⟩
    · have h2b : (d == 2) = false := beq_eq_false_iff_ne.2 h2
      have HS := Lib.hid (show suitsB 1 m d = false by unfold suitsB; rw [if_pos rfl, decide_eq_false h2]; rfl)
      clear h2
      go_enter Try.func79, Try.ntmps79
      go_wp2
      go_ret
      exact ⟨ret_b HS.out, by go_grown⟩
  · have h1b : (k == 1) = false := beq_eq_false_iff_ne.2 h1
    by_cases h2 : k = 2
    · subst h2
      by_cases h3 : d = 3
      · subst h3
        by_cases h4 : m = 0
        · subst h4
          go_enter Try.func79, Try.ntmps79
          go_wp2
          go_ret
          exact ⟨rfl, by go_grown⟩
        · have h4b : (m == 0) = false := beq_eq_false_iff_ne.2 h4
          have HS := Lib.hid (show suitsB 2 m 3 = false by unfold suitsB; rw [if_neg (by decide), if_pos rfl, decide_eq_false h4]; rfl)
          clear h4
          go_enter Try.func79, Try.ntmps79
          go_wp2
          go_ret
          exact ⟨ret_b HS.out, by go_grown⟩
      · have h3b : (d == 3) = false := beq_eq_false_iff_ne.2 h3
        have HS := Lib.hid (show suitsB 2 m d = false by unfold suitsB; rw [if_neg (by decide), if_pos rfl, decide_eq_false h3]; rfl)
        clear h3
        go_enter Try.func79, Try.ntmps79
        go_wp2
        go_ret
        exact ⟨ret_b HS.out, by go_grown⟩
    · have h2b : (k == 2) = false := beq_eq_false_iff_ne.2 h2
      have HS := Lib.hid (show suitsB k m d = false by unfold suitsB; rw [if_neg h1, if_neg h2])
      clear h1 h2
      go_enter Try.func79, Try.ntmps79
      go_wp2
      go_ret
      exact ⟨ret_b HS.out, by go_grown⟩
set_option maxHeartbeats 3200000 in
set_option maxRecDepth 100000 in
theorem chklabel_any {w : World} {S : Sc} {V : Sv} (h : SchIn w S V) :
    Calls Try.prog 56 #[.agg #[.slice V.A S.na V.ca, .slice V.R S.nr V.cr, .slice V.F S.nf V.cf, .int .i64 S.label]] w fun e w' => e = .returned (.int .i64 (labelE S)) ∧ Below w.heap.size w w' := by
  have hna := h.na
  have H := Lib.hid h
  clear h
  by_cases h1 : S.label = -1
  · have HL := Lib.hid (show labelE S = 0 by unfold labelE; rw [if_pos h1])
    rw [h1]
    clear h1
    go_enter Try.func56, Try.ntmps56
    go_wp2
    go_ret
    exact ⟨ret_i HL.out, by go_grown⟩
  · have h1b : (S.label == -1) = false := beq_eq_false_iff_ne.2 h1
    have HN := Lib.hid h1
    clear h1
    go_enter Try.func56, Try.ntmps56
    go_wp2_with fail
    refine (exists_any hna).mono ?_
    rintro e w2 ⟨rfl, hb⟩
    have q := (Box4.new (w := w) (S := S) (V := V)).below hb
    have q0 := q.c0
    have q3 := q.c3
    have hb2 : Below w.heap.size w w2 := by refine Below.trans ?_ (hb.mono ?_) <;> first | go_grown | (simp; omega)
    have HB := Lib.hid hb2
    clear hb hb2 q
    cases he : betweenB S.label 0 ((S.na : Int) - 1) with
    | false =>
      have HE := Lib.hid (show existsB S S.label = false from he)
      clear he
      go_wp2
      go_ret
      exact ⟨ret_i (show labelE S = 2 by unfold labelE; rw [if_neg HN.out, if_pos HE.out]), HB.out⟩
    | true =>
      have HE := Lib.hid (show existsB S S.label = true from he)
      clear he
      obtain ⟨hl0, hl1⟩ := existsB_true.1 HE.out
      obtain ⟨m, hm⟩ := Int.eq_ofNat_of_zero_le hl0
      have HM := Lib.hid hm
      obtain ⟨b, off, hA, hbl, hc⟩ := (H.out.attr.below HB.out) (by omega)
      have c1 := (hc m (by omega)).2
      have hm1 : (m : Int) < (S.na : Int) := by omega
      rw [hA] at q0
      rw [hm] at q3
      clear hA hbl hc hl0 hl1 hm h1b
      by_cases hk : S.kind m = 2
      · have HK := Lib.hid hk
        rw [hk] at c1
        clear hk
        go_wp2
        go_ret
        exact ⟨ret_i (show labelE S = 0 by unfold labelE; rw [if_neg HN.out, if_neg (by rw [HE.out]; simp), if_pos (by rw [HM.out]; exact HK.out)]), HB.out⟩
      · have hkb : (S.kind m == 2) = false := beq_eq_false_iff_ne.2 hk
        have HK := Lib.hid hk
        clear hk
        go_wp2
        go_ret
        exact ⟨ret_i (show labelE S = 7 by unfold labelE; rw [if_neg HN.out, if_neg (by rw [HE.out]; simp), if_neg (by rw [HM.out]; exact HK.out)]), HB.out⟩
set_option maxHeartbeats 3200000 in
set_option maxRecDepth 100000 in
theorem chkfeat_any {w : World} {S : Sc} {V : Sv} (h : SchIn w S V) {i : Nat} (hi : i < S.nf) :
    Calls Try.prog 55 #[.agg #[.slice V.A S.na V.ca, .slice V.R S.nr V.cr, .slice V.F S.nf V.cf, .int .i64 S.label], .int .i64 (i : Int)] w fun e w' => e = .returned (.int .i64 (featE S i)) ∧ Below w.heap.size w w' := by
  obtain ⟨b, off, hA, hbl, hc⟩ := h.feat (by omega)
  obtain ⟨c0, c1, c2⟩ := hc i hi
  have ha : FeatAt w (some ⟨b, off, none⟩) S.nf S.fa S.fk S.fm := hA ▸ h.feat
  have hcf := h.cf
  have hcfm := h.cfm
  have hnf := h.nf
  have hna := h.na
  unfold maxLen at hcfm
  have hB4 : Box4 (w.alloc (.cells #[.slice V.A S.na V.ca, .slice V.R S.nr V.cr, .slice V.F S.nf V.cf, .int .i64 S.label] 28)) w.heap.size S V := Box4.new
  rw [hA] at hB4
  rw [hA]
  have H := Lib.hid (And.intro ha (And.intro h (And.intro hbl hA)))
  clear ha hc hA h hB4
  have hi0 : (0 : Int) ≤ (i : Int) := by omega
  have hi1 : (i : Int) < (S.nf : Int) := by omega
  have hi2 : (i : Int) ≤ (V.cf : Int) := by omega
  go_enter Try.func55, Try.ntmps55
  go_wp2_with fail
  refine (exists_any hna).mono ?_
  rintro e w2 ⟨rfl, hb⟩
  have q0 := (hb.cell (p := ⟨w.heap.size, 0, none⟩) (by simp; omega)).trans (by simp; rfl)
  have q2 := (hb.cell (p := ⟨w.heap.size, 2, none⟩) (by simp; omega)).trans (by simp; rfl)
  have q3 := (hb.cell (p := ⟨w.heap.size, 3, none⟩) (by simp; omega)).trans (by simp; rfl)
  have r0 := (hb.cell (p := ⟨w.heap.size + 1, 0, none⟩) (by simp)).trans (by simp; rfl)
  have r1 := (hb.cell (p := ⟨w.heap.size + 1, 1, none⟩) (by simp)).trans (by simp; rfl)
  have r2 := (hb.cell (p := ⟨w.heap.size + 1, 2, none⟩) (by simp)).trans (by simp; rfl)
  have hs2 : w.heap.size + 1 < w2.heap.size := by have := hb.size; simp at this; omega
  have hb2 : Below w.heap.size w w2 := by refine Below.trans ?_ (hb.mono ?_) <;> first | go_grown | (simp; omega)
  have HB := Lib.hid hb2
  clear hb hb2 c0 c1 c2
  cases he : betweenB (S.fa i) 0 ((S.na : Int) - 1) with
  | false =>
    have HE := Lib.hid (show existsB S (S.fa i) = false from he)
    clear he
    go_wp2
    go_ret
    exact ⟨ret_i (show featE S i = 2 by unfold featE; rw [if_pos HE.out]), HB.out⟩
  | true =>
    have HE := Lib.hid (show existsB S (S.fa i) = true from he)
    clear he
    obtain ⟨hl0, hl1⟩ := existsB_true.1 HE.out
    obtain ⟨m, hm⟩ := Int.eq_ofNat_of_zero_le hl0
    have HM := Lib.hid hm
    obtain ⟨b2, off2, hA, hbl2, hc⟩ := (H.out.2.1.attr.below HB.out) (by omega)
    have k1 := (hc m (by omega)).2
    have hm1 : (m : Int) < (S.na : Int) := by omega
    have hm0 : (0 : Int) ≤ (m : Int) := by omega
    rw [hA] at q0
    rw [hm] at r0
    clear hA hc hl0 hl1 hm
    go_wp2_with fail
    have q0d : w2.drew.cell? ⟨w.heap.size, 0, none⟩ = _ := q0
    have r0d : w2.drew.cell? ⟨w.heap.size + 1, 0, none⟩ = _ := r0
    have r1d : w2.drew.cell? ⟨w.heap.size + 1, 1, none⟩ = _ := r1
    have r2d : w2.drew.cell? ⟨w.heap.size + 1, 2, none⟩ = _ := r2
    have k1d : w2.drew.cell? ⟨b2, off2 + m * 2 + 1, none⟩ = _ := k1
    have hp : w.heap.size < w2.drew.heap.size := by show w.heap.size < w2.heap.size; omega
    have hp1 : w.heap.size + 1 < w2.drew.heap.size := hs2
    have hp2 : b2 < w2.drew.heap.size := hbl2
    have HC := Lib.hid (And.intro q2 (And.intro q3 (And.intro hp (And.intro hp1 hp2))))
    clear q2 q3 hp hp1 hp2
    go_region_held3 (fun w' => w'.cell? ⟨w.heap.size, 0, none⟩ = some (.slice (some ⟨b2, off2, none⟩) S.na V.ca) ∧ w'.cell? ⟨w.heap.size + 1, 0, none⟩ = some (.int .i64 (m : Int)) ∧ w'.cell? ⟨w.heap.size + 1, 1, none⟩ = some (.int .i64 (S.fk i)) ∧ w'.cell? ⟨w.heap.size + 1, 2, none⟩ = some (.int .i64 (S.fm i)) ∧ w'.cell? ⟨b2, off2 + m * 2 + 1, none⟩ = some (.int .i64 (S.kind m)))
      (first | exact ⟨e0, e1, e2, e3, e4⟩ | exact ⟨q0d, r0d, r1d, r2d, k1d⟩ | exact ⟨q0, r0, r1, r2, k1⟩)
      (first
        | (go_at_call 79; go_split_ands; ((with_reducible refine (suits_any _ _ _ _).mono ?_); rintro e w7 ⟨rfl, hb7⟩; have HB7 := Lib.hid hb7; have e0 := (hb7.cell (p := ⟨w.heap.size, 0, none⟩) HC.out.2.2.1).trans q0d; have e1 := (hb7.cell (p := ⟨w.heap.size + 1, 0, none⟩) HC.out.2.2.2.1).trans r0d; have e2 := (hb7.cell (p := ⟨w.heap.size + 1, 1, none⟩) HC.out.2.2.2.1).trans r1d; have e3 := (hb7.cell (p := ⟨w.heap.size + 1, 2, none⟩) HC.out.2.2.2.1).trans r2d; have e4 := (hb7.cell (p := ⟨b2, off2 + m * 2 + 1, none⟩) HC.out.2.2.2.2).trans k1d; clear hb7)))
    have HD := Lib.hid (Below.step HB.out (Below.step (below_drew w2) HB7.out))
    have d2 := (HB7.out.cell (p := ⟨w.heap.size, 2, none⟩) HC.out.2.2.1).trans (show w2.drew.cell? ⟨w.heap.size, 2, none⟩ = _ from HC.out.1)
    have d3 := (HB7.out.cell (p := ⟨w.heap.size, 3, none⟩) HC.out.2.2.1).trans (show w2.drew.cell? ⟨w.heap.size, 3, none⟩ = _ from HC.out.2.1)
    have hs7 : w.heap.size + 1 < w7.heap.size := Nat.lt_of_lt_of_le HC.out.2.2.2.1 HB7.out.size
    clear q0 q0d r0 r0d r1 r1d r2 r2d k1 k1d e0 e2 e3 e4
    cases hs : suitsB (S.fk i) (S.fm i) (S.kind m) with
    | false =>
      have HS := Lib.hid (show suitsB (S.fk i) (S.fm i) (S.kind (S.fa i).toNat) = false by rw [HM.out]; exact hs)
      clear hs
      go_wp2
      go_ret
      exact ⟨ret_i (show featE S i = 7 by unfold featE; rw [if_neg (by rw [HE.out]; simp), if_pos HS.out]), HD.out⟩
    | true =>
      have HS := Lib.hid (show suitsB (S.fk i) (S.fm i) (S.kind (S.fa i).toNat) = true by rw [HM.out]; exact hs)
      clear hs
      by_cases hl : (m : Int) = S.label
      · have hlb : ((m : Int) == S.label) = true := beq_iff_eq.2 hl
        have HL := Lib.hid (show S.fa i = S.label by rw [HM.out]; exact hl)
        clear hl
        go_wp2
        go_ret
        exact ⟨ret_i (show featE S i = 9 by unfold featE; rw [if_neg (by rw [HE.out]; simp), if_neg (by rw [HS.out]; simp), if_pos (.inl HL.out)]), HD.out⟩
      · have hlb : ((m : Int) == S.label) = false := beq_eq_false_iff_ne.2 hl
        have HL := Lib.hid (show ¬ S.fa i = S.label by rw [HM.out]; exact hl)
        clear hl
        go_wp2_with fail
        refine (any_feat (p := fun j => decide (S.fa j = (m : Int))) eg_feat (by omega) (FeatAt.take (m := i) (H.out.1.below HD.out) (by omega)) (pred_feat hs7 e1)).mono ?_
        rintro e w8 ⟨rfl, hb⟩
        have HF := Lib.hid (Below.step HD.out hb)
        clear hb d2 d3 e1
        cases ht : anyB i (fun j => decide (S.fa j = (m : Int))) with
        | true =>
          have HT := Lib.hid (show anyB i (fun j => decide (S.fa j = S.fa i)) = true by rw [HM.out]; exact ht)
          clear ht
          go_wp2
          go_ret
          exact ⟨ret_i (show featE S i = 9 by unfold featE; rw [if_neg (by rw [HE.out]; simp), if_neg (by rw [HS.out]; simp), if_pos (.inr HT.out)]), HF.out⟩
        | false =>
          have HT := Lib.hid (show anyB i (fun j => decide (S.fa j = S.fa i)) = false by rw [HM.out]; exact ht)
          clear ht
          go_wp2
          go_ret
          exact ⟨ret_i (show featE S i = 0 by unfold featE; rw [if_neg (by rw [HE.out]; simp), if_neg (by rw [HS.out]; simp), if_neg (by rintro (h | h); exact HL.out h; rw [HT.out] at h; exact absurd h (by simp))]), HF.out⟩
end Go.Proofs.Ytiakgcaflnpmeaa
namespace Go.Proofs.Ytiakgcaflnpmeaa
open Go Go.RowKit

set_option maxHeartbeats 3200000 in
set_option maxRecDepth 100000 in
theorem check_any {w : World} {S : Sc} {V : Sv} (h : SchIn w S V) :
    Calls Try.prog 33 #[.agg #[.slice V.A S.na V.ca, .slice V.R S.nr V.cr, .slice V.F S.nf V.cf, .int .i64 S.label]] w fun e w' => e = .returned (.int .i64 (checkE S)) ∧ Below w.heap.size w w' := by
  have hna := h.na
  have hnr := h.nr
  have hnf := h.nf
  have hg : Below w.heap.size w (w.alloc (.cells #[.slice V.A S.na V.ca, .slice V.R S.nr V.cr, .slice V.F S.nf V.cf, .int .i64 S.label] 28)) := (Below.refl _ _).alloc (Nat.le_refl _) _
  have H := Lib.hid (And.intro h hg)
  clear h hg
  go_enter Try.func33, Try.ntmps33
  go_wp2_with fail
  refine sizes_any.mono ?_
  rintro e w1 ⟨rfl, hb⟩
  have HB := Lib.hid (And.intro (Below.step H.out.2 hb) (Box4.new.below hb))
  clear hb
  cases hs : sizesB S with
  | false =>
    have HS := Lib.hid hs
    clear hs
    go_wp2
    go_ret
    exact ⟨ret_i (show checkE S = 3 by unfold checkE; rw [if_pos HS.out]), HB.out.1⟩
  | true =>
    have HS := Lib.hid hs
    clear hs
    have q0 := HB.out.2.c0
    go_wp2_with fail
    clear q0
    go_loopg [15] S.na (fun gg s15 wr => ∃ i : Nat, i + gg = S.na ∧ s15 = .int .i64 (i : Int) ∧ Hid (Below w.heap.size w wr ∧ Box4 wr w.heap.size S V ∧ ∀ j, j < i → attrE S j = 0))
    case atStart => exact ⟨0, by omega, rfl, Lib.hid ⟨HB.out.1, HB.out.2, fun _ h => absurd h (by omega)⟩⟩
    case round =>
      clear HB
      obtain ⟨i, hi, rfl, HR⟩ := hrel
      by_cases hlt : i < S.na
      · have q0 := HR.out.2.1.c0
        have q1 := HR.out.2.1.c1
        have q2 := HR.out.2.1.c2
        have q3 := HR.out.2.1.c3
        go_wp2_with fail
        refine (chkattr_any (H.out.1.below HR.out.1) hlt).mono ?_
        rintro e w2 ⟨rfl, hb⟩
        have HB := Lib.hid hb
        clear hb q0 q1 q2 q3
        by_cases he : attrE S i = 0
        · have HE := Lib.hid he
          rw [he]
          clear he
          go_wp2
          go_roundg (S.na - (i + 1))
          case measure => omega
          case rel => exact ⟨i + 1, by omega, by go_num, Lib.hid ⟨Below.step HR.out.1 HB.out, HR.out.2.1.below HB.out, fun j hj => by
            by_cases e : j = i
            · rw [e]; exact HE.out
            · exact HR.out.2.2 j (by omega)⟩⟩
        · have heb : (attrE S i == 0) = false := beq_eq_false_iff_ne.2 he
          have HE := Lib.hid he
          clear he
          go_wp2
          go_ret
          exact ⟨ret_i (show checkE S = attrE S i by
            have h1 := firstNZ_hit HE.out HR.out.2.2 hlt
            unfold checkE; rw [if_neg (by rw [HS.out]; simp), h1, if_pos HE.out]), Below.step HR.out.1 HB.out⟩
      · have ein : S.na = i := by omega
        have HA := Lib.hid (show firstNZ (attrE S) S.na = 0 from firstNZ_zero fun j hj => HR.out.2.2 j (by omega))
        have q1 := HR.out.2.1.c1
        rw [← ein]
        clear ein hi hlt
        go_wp2_with fail
        clear q1
        go_loopg [28] S.nr (fun gg s28 wr => ∃ i : Nat, i + gg = S.nr ∧ s28 = .int .i64 (i : Int) ∧ Hid (Below w.heap.size w wr ∧ Box4 wr w.heap.size S V ∧ ∀ j, j < i → relE S j = 0))
        case atStart => exact ⟨0, by omega, rfl, Lib.hid ⟨HR.out.1, HR.out.2.1, fun _ h => absurd h (by omega)⟩⟩
        case round =>
          clear HR
          obtain ⟨i, hi, rfl, HR⟩ := hrel
          by_cases hlt : i < S.nr
          · have q0 := HR.out.2.1.c0
            have q1 := HR.out.2.1.c1
            have q2 := HR.out.2.1.c2
            have q3 := HR.out.2.1.c3
            go_wp2_with fail
            refine (chkrel_any (H.out.1.below HR.out.1) hlt).mono ?_
            rintro e w2 ⟨rfl, hb⟩
            have HB := Lib.hid hb
            clear hb q0 q1 q2 q3
            by_cases he : relE S i = 0
            · have HE := Lib.hid he
              rw [he]
              clear he
              go_wp2
              go_roundg (S.nr - (i + 1))
              case measure => omega
              case rel => exact ⟨i + 1, by omega, by go_num, Lib.hid ⟨Below.step HR.out.1 HB.out, HR.out.2.1.below HB.out, fun j hj => by
                by_cases e : j = i
                · rw [e]; exact HE.out
                · exact HR.out.2.2 j (by omega)⟩⟩
            · have heb : (relE S i == 0) = false := beq_eq_false_iff_ne.2 he
              have HE := Lib.hid he
              clear he
              go_wp2
              go_ret
              exact ⟨ret_i (show checkE S = relE S i by
                have h1 := firstNZ_hit HE.out HR.out.2.2 hlt
                unfold checkE; rw [if_neg (by rw [HS.out]; simp), HA.out, if_neg (by simp), h1, if_pos HE.out]), Below.step HR.out.1 HB.out⟩
          · have ein : S.nr = i := by omega
            have HQ := Lib.hid (show firstNZ (relE S) S.nr = 0 from firstNZ_zero fun j hj => HR.out.2.2 j (by omega))
            have q0 := HR.out.2.1.c0
            have q1 := HR.out.2.1.c1
            have q2 := HR.out.2.1.c2
            have q3 := HR.out.2.1.c3
            rw [← ein]
            clear ein hi hlt
            go_wp2_with fail
            refine (used_any (H.out.1.below HR.out.1)).mono ?_
            rintro e w2 ⟨rfl, hb⟩
            have HB := Lib.hid (And.intro (Below.step HR.out.1 hb) (HR.out.2.1.below hb))
            clear hb q0 q1 q2 q3 HR
            cases hu : unusedB S with
            | true =>
              have HU := Lib.hid hu
              clear hu
              go_wp2
              go_ret
              exact ⟨ret_i (show checkE S = 7 by unfold checkE; rw [if_neg (by rw [HS.out]; simp), HA.out, if_neg (by simp), HQ.out, if_neg (by simp), if_pos HU.out]), HB.out.1⟩
            | false =>
              have HU := Lib.hid hu
              clear hu
              have q2 := HB.out.2.c2
              go_wp2_with fail
              clear q2
              go_loopg [44] S.nf (fun gg s44 wr => ∃ i : Nat, i + gg = S.nf ∧ s44 = .int .i64 (i : Int) ∧ Hid (Below w.heap.size w wr ∧ Box4 wr w.heap.size S V ∧ ∀ j, j < i → featE S j = 0))
              case atStart => exact ⟨0, by omega, rfl, Lib.hid ⟨HB.out.1, HB.out.2, fun _ h => absurd h (by omega)⟩⟩
              case round =>
                clear HB
                obtain ⟨i, hi, rfl, HR⟩ := hrel
                by_cases hlt : i < S.nf
                · have q0 := HR.out.2.1.c0
                  have q1 := HR.out.2.1.c1
                  have q2 := HR.out.2.1.c2
                  have q3 := HR.out.2.1.c3
                  go_wp2_with fail
                  refine (chkfeat_any (H.out.1.below HR.out.1) hlt).mono ?_
                  rintro e w2 ⟨rfl, hb⟩
                  have HB := Lib.hid hb
                  clear hb q0 q1 q2 q3
                  by_cases he : featE S i = 0
                  · have HE := Lib.hid he
                    rw [he]
                    clear he
                    go_wp2
                    go_roundg (S.nf - (i + 1))
                    case measure => omega
                    case rel => exact ⟨i + 1, by omega, by go_num, Lib.hid ⟨Below.step HR.out.1 HB.out, HR.out.2.1.below HB.out, fun j hj => by
                      by_cases e : j = i
                      · rw [e]; exact HE.out
                      · exact HR.out.2.2 j (by omega)⟩⟩
                  · have heb : (featE S i == 0) = false := beq_eq_false_iff_ne.2 he
                    have HE := Lib.hid he
                    clear he
                    go_wp2
                    go_ret
                    exact ⟨ret_i (show checkE S = featE S i by
                      have h1 := firstNZ_hit HE.out HR.out.2.2 hlt
                      unfold checkE; rw [if_neg (by rw [HS.out]; simp), HA.out, if_neg (by simp), HQ.out, if_neg (by simp), if_neg (by rw [HU.out]; simp), h1, if_pos HE.out]), Below.step HR.out.1 HB.out⟩
                · have ein : S.nf = i := by omega
                  have HF := Lib.hid (show firstNZ (featE S) S.nf = 0 from firstNZ_zero fun j hj => HR.out.2.2 j (by omega))
                  have q0 := HR.out.2.1.c0
                  have q1 := HR.out.2.1.c1
                  have q2 := HR.out.2.1.c2
                  have q3 := HR.out.2.1.c3
                  rw [← ein]
                  clear ein hi hlt
                  go_wp2_with fail
                  refine (chklabel_any (H.out.1.below HR.out.1)).mono ?_
                  rintro e w2 ⟨rfl, hb⟩
                  have HB := Lib.hid (Below.step HR.out.1 hb)
                  clear hb q0 q1 q2 q3
                  go_wp2
                  go_ret
                  exact ⟨ret_i (show checkE S = labelE S by unfold checkE; rw [if_neg (by rw [HS.out]; simp), HA.out, if_neg (by simp), HQ.out, if_neg (by simp), if_neg (by rw [HU.out]; simp), HF.out, if_neg (by simp)]), HB.out⟩
end Go.Proofs.Ytiakgcaflnpmeaa
namespace Go.Proofs.Ytiakgcaflnpmeaa
open Go Go.RowKit

/-- The numbers below n for which p holds, ascending. -/
def selL (n : Nat) (p : Nat → Bool) : List Nat := (List.range n).filter p
theorem selL_succ (n : Nat) (p : Nat → Bool) : selL (n + 1) p = selL n p ++ (if p n then [n] else []) := by
  unfold selL
  rw [List.range_succ, List.filter_append]
  cases h : p n <;> simp [h]
theorem selL_len (n : Nat) (p : Nat → Bool) : (selL n p).length ≤ n := Nat.le_trans (List.length_filter_le _ _) (by simp)
theorem selL_mem {n : Nat} {p : Nat → Bool} {j : Nat} : j ∈ selL n p ↔ j < n ∧ p j = true := by simp [selL]
def natV (l : List Nat) : List Value := l.map fun (j : Nat) => Value.int .i64 (j : Int)
/-- The value is a list of these numbers. -/
def ListAt (w : World) (v : Value) (l : List Nat) : Prop := ∃ A c, v = .slice A l.length c ∧ l.length ≤ 1000 ∧ IntAt w A l.length (fun i => ((l.getD i 0 : Nat) : Int))
theorem ListAt.below {w w' : World} {v : Value} {l : List Nat} (h : ListAt w v l) (hb : Below w.heap.size w w') : ListAt w' v l := by
  obtain ⟨A, c, e, hl, hi⟩ := h
  exact ⟨A, c, e, hl, hi.below hb⟩
theorem infoInt : (Try.prog.info? 3).map (fun i => (i.zero, i.size, i.bytes)) = some (some (.int .i64 0), 1, 8) := by kernel_rfl
theorem listAt_own {w : World} {base : Nat} {v : Value} {l : List Nat} (h : w.ownsRow base 3 1 v l.length (natV l)) (hl : l.length ≤ 1000) : ListAt w v l := by
  have h0 := h
  rcases h.2 with ⟨rfl, hn⟩ | ⟨g', cap, cur, rfl, _, hg, _⟩
  · exact ⟨none, 0, by rw [hn], hl, fun h => absurd h (by omega)⟩
  · refine ⟨_, _, rfl, hl, fun _ => ⟨g', 0, rfl, lt_of_block hg, fun i hi => ?_⟩⟩
    rw [Nat.zero_add, h0.cellAt i (by omega)]
    simp [natV, hi]
theorem own_below' {w w' : World} {base n size : Nat} {e : TypeId} {v : Value} {xs : List Value} (h : w.ownsRow base e size v n xs) (hb : Below w.heap.size w w') : w'.ownsRow base e size v n xs := by
  refine ⟨h.1, ?_⟩
  rcases h.2 with h1 | ⟨g', cap', cur, h', h2, hg', h3⟩
  · exact .inl h1
  · exact .inr ⟨g', cap', cur, h', h2, (hb.block g' (lt_of_block hg')).trans hg', h3⟩
theorem eg_uses : ∀ args w, (callFunc 91 args).run Try.prog w = .ok (.enter 91 args) w := enters_of Try.func91 (by kernel_rfl) rfl
theorem pred_uses {W : World} {B n : Nat} {a : Int} {f : Nat → ByteArray} {h : Nat → Option Addr × Nat × Nat} {rn : Nat → Nat} {x : Nat → Nat → Int} (hB : B < W.heap.size) (hc : W.cell? ⟨B, 0, none⟩ = some (.int .i64 a)) (hx : LInts W n h rn x) :
    PredB 91 #[.pointer (some ⟨B, 0, none⟩)] (RelVal f h) n (fun j => anyB (rn j) fun i => decide (a = x j i)) W := fun w j hj hb => by
  obtain ⟨e1, e2, e3⟩ := hx j hj
  have c0 := (hb.cell (p := ⟨B, 0, none⟩) hB).trans hc
  have hBw : B < w.heap.size := Nat.lt_of_lt_of_le hB hb.size
  have hne : B ≠ w.heap.size := by omega
  rcases hh : h j with ⟨A, l, c⟩
  rw [hh] at e1 e3
  have e1' : l = rn j := e1
  have hg : Below w.heap.size w (w.alloc (.cells #[.string (f j), .slice A (rn j) c] 33)) := (Below.refl _ _).alloc (Nat.le_refl _) _
  have hcon := has_any (nm := f j) (c := c) (a := a) e2 ((e3.below hb).below hg)
  have H := Lib.hid hg
  unfold RelVal
  rw [hh]
  show Calls Try.prog 91 #[.agg #[.string (f j), .slice A l c], .pointer (some ⟨B, 0, none⟩)] w _
  rw [e1']
  clear hb hc hx e1 e1' e3 hg hh
  go_enter Try.func91, Try.ntmps91
  go_wp2_with fail
  refine hcon.mono ?_
  rintro e w' ⟨rfl, hb⟩
  go_wp2
  go_ret
  exact ⟨rfl, Below.step H.out hb⟩
set_option linter.unusedSimpArgs false in
set_option maxHeartbeats 3200000 in
set_option maxRecDepth 100000 in
theorem indices_rel {w : World} {A : Option Addr} {n c : Nat} {f : Nat → ByteArray} {h : Nat → Option Addr × Nat × Nat} {g : Nat} {lb : Array Value} {p : Nat → Bool} (eg : ∀ args w, (callFunc g args).run Try.prog w = .ok (.enter g args) w) (hn : n ≤ 1000)
    (ha : RelAt w A n f h) (hp : PredB g lb (RelVal f h) n p w) :
    Calls Try.prog 90 #[.slice A n c, .func (.func g) #[] lb] w fun e w' => ∃ v, e = .returned v ∧ ListAt w' v (selL n p) ∧ Below w.heap.size w w' := by
  obtain ⟨ei, hi, hz, hss, hbs⟩ := info_parts infoInt
  have HI := Lib.hid (And.intro hi (And.intro hz (And.intro hss hbs)))
  clear hi hz hss hbs
  have H := Lib.hid (And.intro ha hp)
  clear ha hp
  go_enter Try.func90, Try.ntmps90
  go_wp2_with fail
  go_loopg [5, 10] n (fun gg sv s10 wr => ∃ (v : Value) (i : Nat), i + gg = n ∧ sv = v ∧ s10 = .int .i64 (i : Int) ∧ Hid (Below w.heap.size w wr ∧ wr.ownsRow w.heap.size 3 1 v (selL i p).length (natV (selL i p))))
  case atStart => exact ⟨_, 0, by omega, rfl, rfl, Lib.hid ⟨Below.refl _ _, ⟨rfl, .inl ⟨rfl, rfl⟩⟩⟩⟩
  case round =>
    obtain ⟨sv, i, hi, hsv, rfl, HR⟩ := hrel
    have hsv2 := hsv.symm
    clear hsv
    subst hsv2
    by_cases hlt : i < n
    · obtain ⟨b, off, rfl, hbl, hc⟩ := (H.out.1.below HR.out.1) (by omega)
      obtain ⟨c0, c1⟩ := hc i hlt
      have hg : Below wr.heap.size wr (wr.alloc (.cells #[.string (f i), .slice (h i).1 (h i).2.1 (h i).2.2] 33)) := (Below.refl _ _).alloc (Nat.le_refl _) _
      have hcall := H.out.2 _ i hlt (Below.step HR.out.1 hg)
      simp only [RelVal] at hcall
      have HG := Lib.hid hg
      have hk := selL_len i p
      have hszw := HR.out.1.size
      clear hbl hc hg
      cases hq : p i with
      | true =>
        rw [hq] at hcall
        have HQ := Lib.hid (show selL (i + 1) p = selL i p ++ [i] by rw [selL_succ, hq]; rfl)
        clear hq
        go_wp2_with fail
        refine hcall.mono ?_
        rintro e w1 ⟨rfl, hb'⟩
        have H1 := Lib.hid (And.intro (own_below' (own_below' HR.out.2 HG.out) hb') (Below.step (Below.step HR.out.1 HG.out) hb'))
        have hsz1 : w.heap.size ≤ w1.heap.size := H1.out.2.size
        clear hb' hcall c0 c1
        go_wp2_with (at_builtin; refine wpList_append_own_at _ rfl (.tmp 18) (.tmp 20) 22 rfl w.heap.size 3 ei (.int .i64 0) 1 8 Try.underlying22 HI.out.1 HI.out.2.1 HI.out.2.2.1 HI.out.2.2.2 rfl (by decide) sv (selL i p).length (natV (selL i p)) rfl (H1.out.1.alloc _) ⟨w1.heap.size, 0, none⟩ 1 1 [.int .i64 (i : Int)] rfl rfl (by intro j u hj; match j, hj with | 0, hj => simp at hj; subst hj; simp [Addr.add]) (by intro u hu; simp at hu; subst hu; rfl) (by unfold maxLen; omega) (by omega) (by simp; omega) ?_; intro v' w2 hown hgrow hnil hblk; have HO := Lib.hid (And.intro hown hgrow); clear hown hgrow hnil hblk)
        have hrow : ∀ k, sv.ownBlock = some k → w.heap.size ≤ k := fun k hk => (H1.out.1.lt k hk).1
        have hB2 : Below w.heap.size w w2 := ((H1.out.2.alloc hsz1 (.cells #[.int .i64 (i : Int)] 3)).grown HO.out.2 (by simp; omega) hrow)
        have HF := Lib.hid hB2
        clear hrow hB2
        go_wp2
        go_roundg (n - (i + 1))
        case measure => omega
        case rel =>
          refine ⟨_, i + 1, by omega, rfl, by go_num, Lib.hid ⟨HF.out, ?_⟩⟩
          have h3 := HO.out.1
          rw [HQ.out]
          rw [show (selL i p ++ [i]).length = (selL i p).length + 1 by rw [List.length_append]; rfl, show natV (selL i p ++ [i]) = natV (selL i p) ++ [.int .i64 (i : Int)] by simp [natV]]
          exact h3
      | false =>
        rw [hq] at hcall
        have HQ := Lib.hid (show selL (i + 1) p = selL i p by rw [selL_succ, hq]; simp)
        clear hq
        go_wp2_with fail
        refine hcall.mono ?_
        rintro e w1 ⟨rfl, hb'⟩
        have H1 := Lib.hid (And.intro (own_below' (own_below' HR.out.2 HG.out) hb') (Below.step (Below.step HR.out.1 HG.out) hb'))
        clear hb' hcall c0 c1
        go_wp2
        go_roundg (n - (i + 1))
        case measure => omega
        case rel => exact ⟨_, i + 1, by omega, rfl, by go_num, Lib.hid ⟨H1.out.2, by rw [HQ.out]; exact H1.out.1⟩⟩
    · have ein : i = n := by omega
      subst ein
      have HL := Lib.hid (Nat.le_trans (selL_len i p) hn)
      clear hlt hi
      go_wp2
      go_ret
      exact ⟨_, rfl, listAt_own HR.out.2 HL.out, HR.out.1⟩
end Go.Proofs.Ytiakgcaflnpmeaa
namespace Go.Proofs.Ytiakgcaflnpmeaa
open Go Go.RowKit

def usesL (S : Sc) (a : Int) : List Nat := selL S.nr fun j => hasB S j a
def joinedL (S : Sc) : List Nat := selL S.na fun a => decide (1 < (usesL S (a : Int)).length)
def numbersL (S : Sc) : List Nat := selL S.nf fun j => decide (S.fk j = 1)
def linkedB (S : Sc) (a b : Int) : Bool := anyB S.nr fun j => hasB S j a && hasB S j b
def findI (S : Sc) (nm : ByteArray) : Int := idxB (fun j => sameB (S.name j) nm) S.na
theorem Box4.keep {w w' : World} {B : Nat} {S : Sc} {V : Sv} (h : Box4 w B S V) (hb : Below (B + 1) w w') : Box4 w' B S V :=
  ⟨(hb.cell (Nat.lt_succ_self B)).trans h.c0, (hb.cell (Nat.lt_succ_self B)).trans h.c1, (hb.cell (Nat.lt_succ_self B)).trans h.c2, (hb.cell (Nat.lt_succ_self B)).trans h.c3, Nat.lt_of_lt_of_le h.lt hb.size⟩
set_option maxHeartbeats 1600000 in
set_option maxRecDepth 100000 in
theorem uses_in {w : World} {S : Sc} {V : Sv} {a : Int} (h : SchIn w S V) :
    Calls Try.prog 84 #[.agg #[.slice V.A S.na V.ca, .slice V.R S.nr V.cr, .slice V.F S.nf V.cf, .int .i64 S.label], .int .i64 a] w fun e w' => ∃ v, e = .returned v ∧ ListAt w' v (usesL S a) ∧ Below w.heap.size w w' := by
  have hnr := h.nr
  have hg : Below w.heap.size w ((w.alloc (.cells #[.slice V.A S.na V.ca, .slice V.R S.nr V.cr, .slice V.F S.nf V.cf, .int .i64 S.label] 28)).alloc (.cells #[.int .i64 a] 3)) := by go_grown
  have hi := h.below hg
  have hx : LInts ((w.alloc (.cells #[.slice V.A S.na V.ca, .slice V.R S.nr V.cr, .slice V.F S.nf V.cf, .int .i64 S.label] 28)).alloc (.cells #[.int .i64 a] 3)) S.nr V.L S.rn S.rat := hi.ints
  have hp := pred_uses (B := w.heap.size + 1) (n := S.nr) (a := a) (f := S.rname) (by simp) (by simp) hx
  have H := Lib.hid (And.intro hg (And.intro hi.rel hp))
  clear h hg hi hx hp
  go_enter Try.func84, Try.ntmps84
  go_wp2_with fail
  refine (indices_rel (p := fun j => anyB (S.rn j) fun k => decide (a = S.rat j k)) eg_uses hnr H.out.2.1 H.out.2.2).mono ?_
  rintro e w2 ⟨v, rfl, hl, hb⟩
  have HB := Lib.hid (And.intro (show ListAt w2 v (usesL S a) from hl) (H.out.1.trans (hb.mono H.out.1.size)))
  clear hl hb
  go_wp2
  go_ret
  exact ⟨_, rfl, HB.out⟩
set_option maxHeartbeats 1600000 in
set_option maxRecDepth 100000 in
theorem uses_any {w : World} {S : Sc} {V : Sv} {a : Int} (h : SchIn w S V) (hv : checkE S = 0) :
    Calls Try.prog 65 #[.agg #[.slice V.A S.na V.ca, .slice V.R S.nr V.cr, .slice V.F S.nf V.cf, .int .i64 S.label], .int .i64 a] w fun e w' => ∃ v, e = .returned v ∧ ListAt w' v (usesL S a) ∧ Below w.heap.size w w' := by
  have hg : Below w.heap.size w (w.alloc (.cells #[.slice V.A S.na V.ca, .slice V.R S.nr V.cr, .slice V.F S.nf V.cf, .int .i64 S.label] 28)) := (Below.refl _ _).alloc (Nat.le_refl _) _
  have H := Lib.hid (And.intro h (And.intro hv hg))
  clear h hg hv
  go_enter Try.func65, Try.ntmps65
  go_wp2_with fail
  refine (check_any (H.out.1.below H.out.2.2)).mono ?_
  rw [H.out.2.1]
  rintro e w2 ⟨rfl, hb⟩
  have HB := Lib.hid (And.intro (Below.step H.out.2.2 hb) (Box4.new.below hb))
  clear hb
  have q0 := HB.out.2.c0
  have q1 := HB.out.2.c1
  have q2 := HB.out.2.c2
  have q3 := HB.out.2.c3
  go_wp2_with fail
  refine (uses_in (H.out.1.below HB.out.1)).mono ?_
  rintro e w3 ⟨v, rfl, hl, hb⟩
  have HC := Lib.hid (And.intro hl (Below.step HB.out.1 hb))
  clear hl hb q0 q1 q2 q3
  go_wp2
  go_ret
  exact ⟨_, rfl, HC.out⟩
theorem cell_in {w : World} {g j : Nat} {cs : Array Value} {t : TypeId} {v : Value} (h : w.heap[g]? = some (.cells cs t (0, 0))) (hj : cs[j]? = some v) : w.cell? ⟨g, j, none⟩ = some v := by
  unfold World.cell?
  simp [h, hj]
theorem block_alloc {w : World} {b : Nat} {x : Obj} (o : Obj) (h : w.heap[b]? = some x) : (w.alloc o).heap[b]? = some x :=
  (((Below.refl _ _).alloc (Nat.le_refl _) o).block b (lt_of_block h)).trans h
theorem block_new {w : World} {b : Nat} (o : Obj) (h : b = w.heap.size) : (w.alloc o).heap[b]? = some o := by rw [h]; exact heap_alloc_new w o
end Go.Proofs.Ytiakgcaflnpmeaa
