/- Package acyclic: connected, Check; what it says. -/
import Derived.Test.YtiakgcaflnpmeaaAcF
namespace Go.Proofs.Ytiakgcaflnpmeaa
open Go Go.RowKit

theorem contains_list {w : World} {A : Option Addr} {c : Nat} {l : List Int} (a : Int) (hl : l.length ≤ 1000) (h : IntAt w A l.length (fun i => l.getD i 0)) :
    Calls Try.prog 57 #[.slice A l.length c, .int .i64 a] w fun e w' => e = .returned (.bool (decide (a ∈ l))) ∧ w = w' := by
  have hcon := contains_ints (c := c) (a := a) hl h
  rw [show (anyB l.length fun j => decide (a = l.getD j 0)) = decide (a ∈ l) by
    rw [any_getD (q := fun x => decide (a = x)) l, Bool.eq_iff_iff, List.any_eq_true, decide_eq_true_eq]
    exact ⟨fun ⟨x, h1, h2⟩ => by rw [of_decide_eq_true h2]; exact h1, fun h1 => ⟨a, h1, by simp⟩⟩] at hcon
  exact hcon.mono fun e w' h => ⟨h.1, h.2.symm⟩
theorem listAt_cast {w : World} {A : Option Addr} {l : List Nat} (h : IntAt w A l.length fun i => ((l.getD i 0 : Nat) : Int)) : IntAt w A (castL l).length fun i => (castL l).getD i 0 := by
  rw [castL_len]
  intro h0
  obtain ⟨b, off, e, hl, hc⟩ := h h0
  exact ⟨b, off, e, hl, fun i hi => by rw [hc i hi]; show _ = some (Value.int .i64 ((castL l).getD i 0)); rw [castL_get hi]⟩
theorem eg_c1 : ∀ args w, (callFunc 66 args).run Try.prog w = .ok (.enter 66 args) w := enters_of Try.func66 (by kernel_rfl) rfl
set_option maxRecDepth 100000 in
theorem pred_c1 {W : World} {C D cu ct : Nat} {U A : Option Addr} {us : List Int} {l : List Nat} {T : List Int} (hC : C < W.heap.size) (hD : D < W.heap.size) (hd : W.cell? ⟨D, 0, none⟩ = some (.slice U us.length cu)) (hc : W.cell? ⟨C, 0, none⟩ = some (.slice A T.length ct))
    (hu : us.length ≤ 1000) (hui : IntAt W U us.length fun i => us.getD i 0) (hti : IntAt W A T.length fun i => T.getD i 0) (hl : ∀ k, k ∈ l → k < T.length) (hT : T.length ≤ 1000) :
    PredI 66 #[.pointer (some ⟨D, 0, none⟩), .pointer (some ⟨C, 0, none⟩)] (castL l) (fun x => !decide (pOf T x.toNat ∈ us)) W := fun w x hx hb => by
  obtain ⟨k, rfl, hk⟩ := castL_nat hx
  have hkT := hl k hk
  have d0 := (hb.cell (p := ⟨D, 0, none⟩) hD).trans hd
  have c0 := (hb.cell (p := ⟨C, 0, none⟩) hC).trans hc
  have hui' := hui.below hb
  obtain ⟨b, off, rfl, hbl, hcc⟩ := (hti.below hb) (by omega)
  have t0 : w.cell? ⟨b, off + k, none⟩ = some (.int .i64 (pOf T k)) := hcc k hkT
  show Calls Try.prog 66 #[.int .i64 (k : Int), .pointer (some ⟨D, 0, none⟩), .pointer (some ⟨C, 0, none⟩)] w fun e w' => e = .returned (.bool (!decide (pOf T ((k : Nat) : Int).toNat ∈ us))) ∧ Below w.heap.size w w'
  rw [Int.toNat_natCast]
  have hcon : ∀ n, Calls Try.prog 57 #[.slice U us.length cu, .int .i64 (pOf T k)] (w.drewN n) fun e w' => e = .returned (.bool (decide (pOf T k ∈ us))) ∧ w.drewN n = w' := fun n => contains_list (w := w.drewN n) (c := cu) (pOf T k) hu hui'
  generalize decide (pOf T k ∈ us) = q at hcon ⊢
  generalize pOf T k = y at hcon t0
  have HC := Lib.hid hcon
  have h0 : (0 : Int) ≤ (k : Int) := by omega
  have h1 : (k : Int) < (T.length : Int) := by omega
  clear hcon hui' hui hti hb hc hd hcc hx hl
  go_enter Try.func66, Try.ntmps66
  go_wp2_with fail
  go_quiet ((go_at_call 57; exact Calls.quiet_left (HC.out _)))
  go_wp2
  go_ret
  exact ⟨rfl, (Drawn.refl w).drewN nq |>.below _⟩
/-- The relations that have an attribute, but not their parents. -/
def topsL (S : Sc) (T : List Int) (a : Nat) : List Nat := (usesL S (a : Int)).filter fun k => !decide (pOf T k ∈ castL (usesL S (a : Int)))
def connB (S : Sc) (T : List Int) : Bool := !(anyB S.na fun a => !decide ((topsL S T a).length = 1))
theorem castL_filter (E : List Nat) (q : Int → Bool) : (castL E).filter q = castL (E.filter fun k => q (k : Int)) := by
  unfold castL
  rw [List.filter_map]
  rfl
set_option maxHeartbeats 3200000 in
set_option maxRecDepth 100000 in
theorem connected_any {w : World} {S : Sc} {V : Sv} {A : Option Addr} {c : Nat} {T : List Int} (h : SchIn w S V) (hv : checkE S = 0) (hT : T.length = S.nr) (ht : IntAt w A T.length (fun i => T.getD i 0)) :
    Calls Try.prog 47 #[.agg #[.slice V.A S.na V.ca, .slice V.R S.nr V.cr, .slice V.F S.nf V.cf, .int .i64 S.label], .agg #[.slice A T.length c]] w fun e w' => e = .returned (.bool (connB S T)) ∧ Below w.heap.size w w' := by
  have hg : Below w.heap.size w ((w.alloc (.cells #[.slice V.A S.na V.ca, .slice V.R S.nr V.cr, .slice V.F S.nf V.cf, .int .i64 S.label] 28)).alloc (.cells #[.slice A T.length c] 42)) := by go_grown
  have hr2 : ((w.alloc (.cells #[.slice V.A S.na V.ca, .slice V.R S.nr V.cr, .slice V.F S.nf V.cf, .int .i64 S.label] 28)).alloc (.cells #[.slice A T.length c] 42)).heap[w.heap.size + 1]? = some (.cells #[.slice A T.length c] 42 (0, 0)) := block_new _ (by simp)
  have hnr := check_nr hv
  have H := Lib.hid (And.intro h (And.intro hg (And.intro (Box4.below (Box4.new (w := w) (S := S) (V := V)) ((Below.refl _ _).alloc (Nat.le_refl _) (.cells #[.slice A T.length c] 42))) (And.intro hr2 (And.intro ht (And.intro hv hT))))))
  clear h hg hr2 ht hv hT
  go_enter Try.func47, Try.ntmps47
  go_wp2_with fail
  go_loopg [11] S.na (fun gg s11 wr => ∃ i : Nat, i + gg = S.na ∧ s11 = .int .i64 (i : Int) ∧ Hid (Below w.heap.size w wr ∧ Box4 wr w.heap.size S V ∧ wr.heap[w.heap.size + 1]? = some (.cells #[.slice A T.length c] 42 (0, 0)) ∧ ∀ j, j < i → (topsL S T j).length = 1))
  case atStart => exact ⟨0, by omega, rfl, Lib.hid ⟨H.out.2.1, H.out.2.2.1, H.out.2.2.2.1, fun _ h => absurd h (by omega)⟩⟩
  case round =>
    obtain ⟨i, hi, rfl, HR⟩ := hrel
    by_cases hlt : i < S.na
    · have q0 := HR.out.2.1.c0
      have q1 := HR.out.2.1.c1
      have q2 := HR.out.2.1.c2
      have q3 := HR.out.2.1.c3
      go_wp2_with fail
      refine (uses_any (a := (i : Int)) (H.out.1.below HR.out.1) H.out.2.2.2.2.2.1).mono ?_
      rintro e w2 ⟨v, rfl, ⟨U, cu, rfl, hul, hui⟩, hb⟩
      have hg2 : Below w2.heap.size w2 (w2.alloc (.cells #[.slice U (usesL S (i : Int)).length cu] 22)) := (Below.refl _ _).alloc (Nat.le_refl _) _
      have hB2 := Below.step HR.out.1 (Below.step hb hg2)
      have hX2 := (HR.out.2.1.below hb).below hg2
      have hbk := ((hb.trans (hg2.mono hb.size)).block _ (lt_of_block HR.out.2.2.1)).trans HR.out.2.2.1
      have hk1 : w.heap.size + 1 < w2.heap.size := Nat.lt_of_lt_of_le (lt_of_block HR.out.2.2.1) hb.size
      have hci := listAt_cast (hui.below hg2)
      have hp := pred_c1 (W := w2.alloc (.cells #[.slice U (usesL S (i : Int)).length cu] 22)) (C := w.heap.size + 1) (D := w2.heap.size) (cu := cu) (ct := c) (U := U) (A := A) (us := castL (usesL S (i : Int))) (l := usesL S (i : Int)) (T := T) (by simp; omega) (by simp) (by rw [castL_len]; simp) (cell_in hbk rfl) (by rw [castL_len]; exact hul) hci (H.out.2.2.2.2.1.below hB2) (fun k hk => by rw [H.out.2.2.2.2.2.2]; exact (selL_mem.1 hk).1) (by rw [H.out.2.2.2.2.2.2]; omega)
      have hkp := kept_any (c := cu) eg_c1 (by rw [castL_len]; exact hul) hci hp
      rw [castL_filter, castL_len] at hkp
      simp only [Int.toNat_natCast] at hkp
      obtain ⟨n, hn⟩ : ∃ n, n = (usesL S (i : Int)).length := ⟨_, rfl⟩
      have HB := Lib.hid (And.intro hB2 (And.intro hX2 hbk))
      rw [← hn] at hkp HB hul ⊢
      have HN := Lib.hid hn
      clear hb hg2 hB2 hX2 hbk hci hp hn q0 q1 q2 q3 hui
      go_wp2_with fail
      refine hkp.mono ?_
      rintro e w3 ⟨v3, rfl, ⟨A3, c3, rfl, hl3, _⟩, hb⟩
      have HC := Lib.hid (And.intro (Below.step HB.out.1 hb) (And.intro (HB.out.2.1.below hb) ((hb.block _ (lt_of_block HB.out.2.2)).trans HB.out.2.2)))
      clear hb hkp
      rw [castL_len] at hl3 ⊢
      obtain ⟨m, hm⟩ : ∃ m, m = (topsL S T i).length := ⟨_, rfl⟩
      rw [show ((usesL S (i : Int)).filter fun k => !decide (pOf T k ∈ castL (usesL S (i : Int)))).length = m from hm.symm] at hl3 ⊢
      have HM := Lib.hid hm
      clear hm
      by_cases h1 : m = 1
      · have h1b : ((m : Int) == 1) = true := by rw [beq_iff_eq]; omega
        have H1 := Lib.hid h1
        clear h1
        go_wp2
        go_roundg (S.na - (i + 1))
        case measure => omega
        case rel => exact ⟨i + 1, by omega, by go_num, Lib.hid ⟨HC.out.1, HC.out.2.1, HC.out.2.2, fun j hj => by
          by_cases e : j = i
          · rw [e, ← HM.out]; exact H1.out
          · exact HR.out.2.2.2 j (by omega)⟩⟩
      · have h1b : ((m : Int) == 1) = false := by rw [beq_eq_false_iff_ne]; omega
        have HF := Lib.hid (show connB S T = false by unfold connB; rw [anyB_hit hlt (by rw [← HM.out, decide_eq_false h1]; rfl)]; rfl)
        clear h1
        go_wp2
        go_ret
        exact ⟨ret_b HF.out, HC.out.1⟩
    · have ein : i = S.na := by omega
      have HF := Lib.hid (show connB S T = true by unfold connB; rw [anyB_false.2 fun j hj => by rw [HR.out.2.2.2 j (by omega)]; rfl]; rfl)
      rw [ein]
      clear hlt hi ein
      go_wp2
      go_ret
      exact ⟨ret_b HF.out, HR.out.1⟩
def checkTB (S : Sc) (T : List Int) : Bool := decide (checkE S = 0) && (decide (T.length = S.nr) && (rootedB T && connB S T))
set_option maxHeartbeats 3200000 in
set_option maxRecDepth 100000 in
theorem tcheck_any {w : World} {S : Sc} {V : Sv} {A : Option Addr} {c : Nat} {T : List Int} (h : SchIn w S V) (ht : IntAt w A T.length (fun i => T.getD i 0)) :
    Calls Try.prog 26 #[.agg #[.slice V.A S.na V.ca, .slice V.R S.nr V.cr, .slice V.F S.nf V.cf, .int .i64 S.label], .agg #[.slice A T.length c]] w fun e w' => e = .returned (.bool (checkTB S T)) ∧ Below w.heap.size w w' := by
  have hg : Below w.heap.size w ((w.alloc (.cells #[.slice V.A S.na V.ca, .slice V.R S.nr V.cr, .slice V.F S.nf V.cf, .int .i64 S.label] 28)).alloc (.cells #[.slice A T.length c] 42)) := by go_grown
  have hr2 : ((w.alloc (.cells #[.slice V.A S.na V.ca, .slice V.R S.nr V.cr, .slice V.F S.nf V.cf, .int .i64 S.label] 28)).alloc (.cells #[.slice A T.length c] 42)).heap[w.heap.size + 1]? = some (.cells #[.slice A T.length c] 42 (0, 0)) := block_new _ (by simp)
  have H := Lib.hid (And.intro h (And.intro hg (And.intro (Box4.below (Box4.new (w := w) (S := S) (V := V)) ((Below.refl _ _).alloc (Nat.le_refl _) (.cells #[.slice A T.length c] 42))) (And.intro hr2 ht))))
  clear h hg hr2 ht
  go_enter Try.func26, Try.ntmps26
  go_wp2_with fail
  refine (check_any (H.out.1.below H.out.2.1)).mono ?_
  rintro e w1 ⟨rfl, hb⟩
  have H1 := Lib.hid (And.intro (Below.step H.out.2.1 hb) (And.intro (H.out.2.2.1.below hb) ((hb.block _ (lt_of_block H.out.2.2.2.1)).trans H.out.2.2.2.1)))
  clear hb
  have q0 := H1.out.2.1.c0
  have q1 := H1.out.2.1.c1
  have q2 := H1.out.2.1.c2
  have q3 := H1.out.2.1.c3
  have t0 : w1.cell? ⟨w.heap.size + 1, 0, none⟩ = some (.slice A T.length c) := cell_in H1.out.2.2 rfl
  by_cases he : checkE S = 0
  · have HE := Lib.hid he
    rw [he]
    clear he
    by_cases hn : T.length = S.nr
    · have hnr := check_nr HE.out
      have HN := Lib.hid hn
      have hnb : ((T.length : Int) == (S.nr : Int)) = true := by rw [beq_iff_eq]; omega
      have hro := rooted_any (c := c) (T := T) (by omega) (H.out.2.2.2.2.below H1.out.1)
      clear hn
      cases hq : rootedB T with
      | true =>
        rw [hq] at hro
        have HQ := Lib.hid hq
        clear hq
        go_wp2_with fail
        refine hro.mono ?_
        rintro e w2 ⟨rfl, hb⟩
        have H2 := Lib.hid (And.intro (Below.step H1.out.1 hb) (And.intro (H1.out.2.1.below hb) ((hb.block _ (lt_of_block H1.out.2.2)).trans H1.out.2.2)))
        clear hb q0 q1 q2 q3 t0
        have q0 := H2.out.2.1.c0
        have q1 := H2.out.2.1.c1
        have q2 := H2.out.2.1.c2
        have q3 := H2.out.2.1.c3
        have t0 : w2.cell? ⟨w.heap.size + 1, 0, none⟩ = some (.slice A T.length c) := cell_in H2.out.2.2 rfl
        have hcn := connected_any (c := c) (H.out.1.below H2.out.1) HE.out HN.out (H.out.2.2.2.2.below H2.out.1)
        obtain ⟨q, hq⟩ : ∃ q, q = connB S T := ⟨_, rfl⟩
        rw [← hq] at hcn
        have HF := Lib.hid (show checkTB S T = q by unfold checkTB; rw [decide_eq_true HE.out, decide_eq_true HN.out, HQ.out, hq]; rfl)
        clear hq
        go_wp2_with fail
        refine hcn.mono ?_
        rintro e w3 ⟨rfl, hb⟩
        have H3 := Lib.hid (Below.step H2.out.1 hb)
        clear hb
        go_wp2
        go_ret
        exact ⟨ret_b HF.out, H3.out⟩
      | false =>
        rw [hq] at hro
        have HF := Lib.hid (show checkTB S T = false by unfold checkTB; rw [hq, Bool.false_and, Bool.and_false, Bool.and_false])
        clear hq
        go_wp2_with fail
        refine hro.mono ?_
        rintro e w2 ⟨rfl, hb⟩
        have H2 := Lib.hid (Below.step H1.out.1 hb)
        clear hb q0 q1 q2 q3 t0
        go_wp2
        go_ret
        exact ⟨ret_b HF.out, H2.out⟩
    · have hnb : ((T.length : Int) == (S.nr : Int)) = false := by rw [beq_eq_false_iff_ne]; omega
      have HF := Lib.hid (show checkTB S T = false by unfold checkTB; rw [decide_eq_false hn, Bool.false_and, Bool.and_false])
      clear hn
      go_wp2
      go_ret
      exact ⟨ret_b HF.out, H1.out.1⟩
  · have heb : (checkE S == 0) = false := beq_eq_false_iff_ne.2 he
    have HF := Lib.hid (show checkTB S T = false by unfold checkTB; rw [decide_eq_false he, Bool.false_and])
    clear he
    go_wp2
    go_ret
    exact ⟨ret_b HF.out, H1.out.1⟩
theorem selL_nodup (n : Nat) (p : Nat → Bool) : (selL n p).Nodup := by
  unfold selL
  exact List.Pairwise.filter _ List.nodup_range
theorem len_one {l : List Nat} (hnd : l.Nodup) : l.length = 1 ↔ ∃ x, x ∈ l ∧ ∀ y, y ∈ l → y = x := by
  constructor
  · intro h
    obtain ⟨x, rfl⟩ := List.length_eq_one_iff.1 h
    exact ⟨x, by simp, fun y hy => by simpa using hy⟩
  · rintro ⟨x, hx, h⟩
    have h1 : 0 < l.length := List.length_pos_of_mem hx
    have h2 : ¬ 1 < l.length := fun h2 => by
      have e1 := h _ (List.getElem_mem (by omega : 0 < l.length))
      have e2 := h _ (List.getElem_mem h2)
      have := (List.getElem_inj hnd).1 (e1.trans e2.symm)
      omega
    omega
theorem uses_mem {S : Sc} {a : Int} {k : Nat} : k ∈ usesL S a ↔ k < S.nr ∧ a ∈ attrs S k := by
  unfold usesL
  rw [selL_mem, attrs_mem, List.contains_iff_mem]
theorem tops_mem {S : Sc} {T : List Int} {a k : Nat} : k ∈ topsL S T a ↔ Acy.Top (attrs S) (List.range S.nr) (pOf T) (a : Int) k := by
  unfold topsL Acy.Top
  rw [List.mem_filter, uses_mem, List.mem_range]
  constructor
  · rintro ⟨⟨h1, h2⟩, h3⟩
    refine ⟨h1, h2, fun w hw e ha => ?_⟩
    rw [Bool.not_eq_true', decide_eq_false_iff_not, e] at h3
    exact h3 (castL_mem.2 (uses_mem.2 ⟨List.mem_range.1 hw, ha⟩))
  · rintro ⟨h1, h2, h3⟩
    refine ⟨⟨h1, h2⟩, ?_⟩
    rw [Bool.not_eq_true', decide_eq_false_iff_not]
    intro hm
    obtain ⟨w, e, hw⟩ := castL_nat hm
    obtain ⟨h4, h5⟩ := uses_mem.1 hw
    exact h3 w (List.mem_range.2 h4) e h5
/-- What Check says. -/
theorem checkTB_iff {S : Sc} {T : List Int} (hv : checkE S = 0) (hT : T.length = S.nr) : checkTB S T = true ↔ Acy.Right (attrs S) S.nr S.na (pOf T) := by
  unfold checkTB
  rw [decide_eq_true hv, decide_eq_true hT, Bool.true_and, Bool.true_and, Bool.and_eq_true]
  unfold rootedB connB
  rw [Bool.and_eq_true, Bool.not_eq_true', anyB_false, Bool.not_eq_true', anyB_false, decide_eq_true_eq, hT]
  have hone : (selL S.nr fun j => pOf T j == -1).length = 1 ↔ ∃ c, c < S.nr ∧ pOf T c = -1 ∧ ∀ r, r < S.nr → pOf T r = -1 → r = c := by
    rw [len_one (selL_nodup _ _)]
    constructor
    · rintro ⟨x, hx, h⟩
      obtain ⟨h1, h2⟩ := selL_mem.1 hx
      exact ⟨x, h1, beq_iff_eq.1 h2, fun r hr e => h r (selL_mem.2 ⟨hr, beq_iff_eq.2 e⟩)⟩
    · rintro ⟨x, h1, h2, h⟩
      exact ⟨x, selL_mem.2 ⟨h1, beq_iff_eq.2 h2⟩, fun y hy => by obtain ⟨h3, h4⟩ := selL_mem.1 hy; exact h y h3 (beq_iff_eq.1 h4)⟩
  have htop : ∀ a : Nat, (topsL S T a).length = 1 ↔ ∃ r, Acy.Top (attrs S) (List.range S.nr) (pOf T) (a : Int) r ∧ ∀ r', Acy.Top (attrs S) (List.range S.nr) (pOf T) (a : Int) r' → r' = r := fun a => by
    rw [len_one (by unfold topsL; exact List.Pairwise.filter _ (selL_nodup _ _))]
    constructor
    · rintro ⟨x, hx, h⟩; exact ⟨x, tops_mem.1 hx, fun y hy => h y (tops_mem.2 hy)⟩
    · rintro ⟨x, hx, h⟩; exact ⟨x, tops_mem.2 hx, fun y hy => h y (tops_mem.1 hy)⟩
  rw [hone]
  constructor
  · rintro ⟨⟨h1, h2⟩, h3⟩
    exact ⟨h2, fun r hr => by have := h1 r hr; simpa using this, fun a ha => (htop a).1 (by have := h3 a ha; simpa using this)⟩
  · rintro ⟨h2, h1, h3⟩
    exact ⟨⟨fun j hj => by rw [h1 j hj]; rfl, h2⟩, fun a ha => by rw [decide_eq_true ((htop a).2 (h3 a ha))]; rfl⟩
end Go.Proofs.Ytiakgcaflnpmeaa
