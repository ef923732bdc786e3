/- Lists of integers are compared, and looked through; package acyclic: Ear, Closed. -/
import Derived.Test.YtiakgcaflnpmeaaAcG
namespace Go.Proofs.Ytiakgcaflnpmeaa
open Go Go.RowKit

set_option maxHeartbeats 1600000 in
set_option maxRecDepth 100000 in
theorem equal_ints {w : World} {A A' : Option Addr} {c c' : Nat} {l m : List Int} (_ : l.length ≤ 1000) (hm : m.length ≤ 1000) (h1 : IntAt w A l.length fun i => l.getD i 0) (h2 : IntAt w A' m.length fun i => m.getD i 0) :
    Calls Try.prog 50 #[.slice A l.length c, .slice A' m.length c'] w fun e w' => e = .returned (.bool (decide (l = m))) ∧ Below w.heap.size w w' := by
  by_cases hn : l.length = m.length
  · obtain ⟨n, hnn⟩ : ∃ n, n = l.length := ⟨_, rfl⟩
    have hnm : n = m.length := by omega
    have H := Lib.hid (And.intro h1 h2)
    have HN := Lib.hid (And.intro hnn hnm)
    rw [← hnn] at H
    rw [← hnm] at hm H
    rw [← hnn, ← hnm]
    clear h1 h2 hnn hnm hn
    go_enter Try.func50, Try.ntmps50
    go_wp2_with fail
    go_loopg [13] n (fun gg s13 wr => ∃ i : Nat, i + gg = n ∧ s13 = .int .i64 (i : Int) ∧ Hid (Below w.heap.size w wr ∧ ∀ j, j < i → l.getD j 0 = m.getD j 0))
    case atStart => exact ⟨0, by omega, rfl, Lib.hid ⟨Below.refl _ _, fun _ h => absurd h (by omega)⟩⟩
    case round =>
      obtain ⟨i, hi, rfl, HR⟩ := hrel
      by_cases hlt : i < n
      · obtain ⟨b, off, rfl, hbl, hc⟩ := (H.out.1.below HR.out.1) (by omega)
        obtain ⟨b', off', rfl, hbl', hc'⟩ := (H.out.2.below HR.out.1) (by omega)
        have c0 : wr.cell? ⟨b, off + i, none⟩ = some (.int .i64 (l.getD i 0)) := hc i hlt
        have c1 : wr.cell? ⟨b', off' + i, none⟩ = some (.int .i64 (m.getD i 0)) := hc' i hlt
        clear hbl hc hbl' hc'
        obtain ⟨x, hx⟩ : ∃ x, x = l.getD i 0 := ⟨_, rfl⟩
        obtain ⟨y, hy⟩ : ∃ y, y = m.getD i 0 := ⟨_, rfl⟩
        rw [← hx] at c0
        rw [← hy] at c1
        have HX := Lib.hid (And.intro hx hy)
        clear hx hy
        by_cases hxy : x = y
        · have HE := Lib.hid hxy
          rw [← hxy] at c1
          clear hxy
          go_wp2_with fail
          go_quiet (fail)
          go_wp2
          go_roundg (n - (i + 1))
          case measure => omega
          case rel => exact ⟨i + 1, by omega, by go_num, Lib.hid ⟨HR.out.1.trans (((Drawn.refl wr).drewN nq).below _), fun j hj => by
            by_cases e : j = i
            · rw [e, ← HX.out.1, ← HX.out.2]; exact HE.out
            · exact HR.out.2 j (by omega)⟩⟩
        · have hb : (x == y) = false := beq_eq_false_iff_ne.2 hxy
          have HF := Lib.hid (show decide (l = m) = false from decide_eq_false fun e => hxy (by rw [HX.out.1, HX.out.2, e]))
          clear hxy
          go_wp2_with fail
          go_quiet (fail)
          go_wp2
          go_ret
          exact ⟨ret_b HF.out, HR.out.1.trans (((Drawn.refl wr).drewN nq).below _)⟩
      · have ein : i = n := by omega
        have HF := Lib.hid (show decide (l = m) = true from decide_eq_true (by
          apply List.ext_getElem
          · rw [← HN.out.1, ← HN.out.2]
          · intro j h3 h4
            have := HR.out.2 j (by rw [← HN.out.1] at h3; omega)
            simpa [List.getD, h3, h4] using this))
        rw [ein]
        clear hlt hi ein
        go_wp2
        go_ret
        exact ⟨ret_b HF.out, HR.out.1⟩
  · have hnb : ((l.length : Int) == (m.length : Int)) = false := by rw [beq_eq_false_iff_ne]; omega
    have HF := Lib.hid (show decide (l = m) = false from decide_eq_false fun e => hn (by rw [e]))
    clear hn h1 h2
    go_enter Try.func50, Try.ntmps50
    go_wp2
    go_ret
    exact ⟨ret_b HF.out, Below.refl _ _⟩
set_option maxHeartbeats 1600000 in
set_option maxRecDepth 100000 in
theorem ref_ints {w : World} {A A' : Option Addr} {c c' : Nat} {l m : List Int} (_ : l.length ≤ 1000) (hm : m.length ≤ 1000) (h1 : IntAt w A l.length fun i => l.getD i 0) (h2 : IntAt w A' m.length fun i => m.getD i 0) :
    Calls Try.prog 22 #[.slice A l.length c, .slice A' m.length c'] w fun e w' => e = .returned (.bool (decide (l = m))) ∧ Below w.heap.size w w' := by
  by_cases hn : l.length = m.length
  · obtain ⟨n, hnn⟩ : ∃ n, n = l.length := ⟨_, rfl⟩
    have hnm : n = m.length := by omega
    have H := Lib.hid (And.intro h1 h2)
    have HN := Lib.hid (And.intro hnn hnm)
    rw [← hnn] at H
    rw [← hnm] at hm H
    rw [← hnn, ← hnm]
    clear h1 h2 hnn hnm hn
    go_enter Try.func22, Try.ntmps22
    go_wp2_with fail
    go_loopg [13] n (fun gg s13 wr => ∃ i : Nat, i + gg = n ∧ s13 = .int .i64 (i : Int) ∧ Hid (Below w.heap.size w wr ∧ ∀ j, j < i → l.getD j 0 = m.getD j 0))
    case atStart => exact ⟨0, by omega, rfl, Lib.hid ⟨Below.refl _ _, fun _ h => absurd h (by omega)⟩⟩
    case round =>
      obtain ⟨i, hi, rfl, HR⟩ := hrel
      by_cases hlt : i < n
      · obtain ⟨b, off, rfl, hbl, hc⟩ := (H.out.1.below HR.out.1) (by omega)
        obtain ⟨b', off', rfl, hbl', hc'⟩ := (H.out.2.below HR.out.1) (by omega)
        have c0 : wr.cell? ⟨b, off + i, none⟩ = some (.int .i64 (l.getD i 0)) := hc i hlt
        have c1 : wr.cell? ⟨b', off' + i, none⟩ = some (.int .i64 (m.getD i 0)) := hc' i hlt
        clear hbl hc hbl' hc'
        obtain ⟨x, hx⟩ : ∃ x, x = l.getD i 0 := ⟨_, rfl⟩
        obtain ⟨y, hy⟩ : ∃ y, y = m.getD i 0 := ⟨_, rfl⟩
        rw [← hx] at c0
        rw [← hy] at c1
        have HX := Lib.hid (And.intro hx hy)
        clear hx hy
        by_cases hxy : x = y
        · have HE := Lib.hid hxy
          rw [← hxy] at c1
          clear hxy
          go_wp2_with fail
          go_quiet (fail)
          go_wp2
          go_roundg (n - (i + 1))
          case measure => omega
          case rel => exact ⟨i + 1, by omega, by go_num, Lib.hid ⟨HR.out.1.trans (((Drawn.refl wr).drewN nq).below _), fun j hj => by
            by_cases e : j = i
            · rw [e, ← HX.out.1, ← HX.out.2]; exact HE.out
            · exact HR.out.2 j (by omega)⟩⟩
        · have hb : (x == y) = false := beq_eq_false_iff_ne.2 hxy
          have HF := Lib.hid (show decide (l = m) = false from decide_eq_false fun e => hxy (by rw [HX.out.1, HX.out.2, e]))
          clear hxy
          go_wp2_with fail
          go_quiet (fail)
          go_wp2
          go_ret
          exact ⟨ret_b HF.out, HR.out.1.trans (((Drawn.refl wr).drewN nq).below _)⟩
      · have ein : i = n := by omega
        have HF := Lib.hid (show decide (l = m) = true from decide_eq_true (by
          apply List.ext_getElem
          · rw [← HN.out.1, ← HN.out.2]
          · intro j h3 h4
            have := HR.out.2 j (by rw [← HN.out.1] at h3; omega)
            simpa [List.getD, h3, h4] using this))
        rw [ein]
        clear hlt hi ein
        go_wp2
        go_ret
        exact ⟨ret_b HF.out, HR.out.1⟩
  · have hnb : ((l.length : Int) == (m.length : Int)) = false := by rw [beq_eq_false_iff_ne]; omega
    have HF := Lib.hid (show decide (l = m) = false from decide_eq_false fun e => hn (by rw [e]))
    clear hn h1 h2
    go_enter Try.func22, Try.ntmps22
    go_wp2
    go_ret
    exact ⟨ret_b HF.out, Below.refl _ _⟩
set_option maxHeartbeats 1600000 in
theorem in05_int {w : World} {A : Option Addr} {c : Nat} {l : List Int} (a : Int) (hl : l.length ≤ 1000) (h1 : IntAt w A l.length fun i => l.getD i 0) :
    Calls Try.prog 39 #[.slice A l.length c, .int .i64 a] w fun e w' => e = .returned (.bool (decide (a ∈ l))) ∧ w' = w := by
  obtain ⟨n, hn⟩ : ∃ n, n = l.length := ⟨_, rfl⟩
  rw [← hn] at hl h1 ⊢
  have H := Lib.hid (And.intro h1 hn)
  clear h1 hn
  go_enter Try.func39, Try.ntmps39
  go_wp2_with fail
  go_loop [9] (fun s9 => ∃ i : Nat, i ≤ n ∧ s9 = .int .i64 (i : Int) ∧ Hid (∀ j, j < i → l.getD j 0 ≠ a)) (fun s9 => n - (intOf s9).toNat)
  case atStart => exact ⟨0, by omega, rfl, Lib.hid (fun _ h => absurd h (by omega))⟩
  case round =>
    obtain ⟨i, hi, rfl, HR⟩ := hrel
    by_cases hlt : i < n
    · obtain ⟨b, off, rfl, hbl, hc⟩ := H.out.1 (by omega)
      have c0 : w.cell? ⟨b, off + i, none⟩ = some (.int .i64 (l.getD i 0)) := hc i hlt
      clear hbl hc
      obtain ⟨y, hy⟩ : ∃ y, y = l.getD i 0 := ⟨_, rfl⟩
      rw [← hy] at c0
      have HY := Lib.hid hy
      clear hy
      by_cases hq : y = a
      · have HQ := Lib.hid (show decide (a ∈ l) = true from decide_eq_true (by rw [← hq, HY.out]; exact getD_mem (by rw [← H.out.2]; exact hlt)))
        have hqb : (y == a) = true := by rw [beq_iff_eq]; exact hq
        clear hq
        go_wp2
        go_ret
        exact ⟨ret_b HQ.out, rfl⟩
      · have hqb : (y == a) = false := by rw [beq_eq_false_iff_ne]; exact hq
        have HQ := Lib.hid (show l.getD i 0 ≠ a by rw [← HY.out]; exact hq)
        clear hq
        go_wp2
        go_round
        case rel => exact ⟨i + 1, by omega, by go_num, Lib.hid (fun j hj => by
          by_cases e : j = i
          · rw [e]; exact HQ.out
          · exact HR.out j (by omega))⟩
        case measure => simp [intOf]; omega
    · have ein : i = n := by omega
      have HF := Lib.hid (show decide (a ∈ l) = false from decide_eq_false fun hm => by
        obtain ⟨j, hj, e⟩ := List.getElem_of_mem hm
        exact HR.out j (by rw [← H.out.2] at hj; omega) (by rw [← e]; simp [List.getD, hj]))
      subst ein
      clear hlt hi
      go_wp2
      go_ret
      exact ⟨ret_b HF.out, rfl⟩
theorem in_int {w : World} {A : Option Addr} {c : Nat} {l : List Int} (a : Int) (hl : l.length ≤ 1000) (h1 : IntAt w A l.length fun i => l.getD i 0) :
    Calls Try.prog 13 #[.slice A l.length c, .int .i64 a] w fun e w' => e = .returned (.bool (decide (a ∈ l))) ∧ w' = w := by
  have hcon := in05_int (c := c) a hl h1
  generalize decide (a ∈ l) = q at hcon ⊢
  clear h1
  go_enter Try.func13, Try.ntmps13
  go_wp2_with fail
  refine hcon.mono ?_
  rintro e w' ⟨rfl, rfl⟩
  go_wp2
  go_ret
  exact ⟨rfl, rfl⟩
def BoolAt (w : World) (A : Option Addr) (n : Nat) (f : Nat → Bool) : Prop :=
  0 < n → ∃ b off, A = some ⟨b, off, none⟩ ∧ b < w.heap.size ∧ ∀ i, i < n → w.cell? ⟨b, off + i, none⟩ = some (.bool (f i))
theorem BoolAt.below {w w' : World} {A : Option Addr} {n : Nat} {f : Nat → Bool} (h0 : BoolAt w A n f) (hb : Below w.heap.size w w') : BoolAt w' A n f := by
  intro hn
  obtain ⟨b, off, e, hl, hc⟩ := h0 hn
  exact ⟨b, off, e, Nat.lt_of_lt_of_le hl hb.size, fun i hi => (hb.cell hl).trans (hc i hi)⟩
theorem eg_ear : ∀ args w, (callFunc 37 args).run Try.prog w = .ok (.enter 37 args) w := enters_of Try.func37 (by kernel_rfl) rfl
theorem pred_ear {W : World} {C c n : Nat} {A : Option Addr} {l : List Nat} {f : Nat → Bool} (hC : C < W.heap.size) (hc : W.cell? ⟨C, 0, none⟩ = some (.slice A n c)) (hb : BoolAt W A n f) (hl : ∀ k, k ∈ l → k < n) (hn : n ≤ 1000) :
    PredI 37 #[.pointer (some ⟨C, 0, none⟩)] (castL l) (fun x => f x.toNat) W := fun w x hx hw => by
  obtain ⟨k, rfl, hk⟩ := castL_nat hx
  have hkn := hl k hk
  have c0 := (hw.cell (p := ⟨C, 0, none⟩) hC).trans hc
  obtain ⟨b, off, rfl, hbl, hcc⟩ := (hb.below hw) (by omega)
  have t0 := hcc k hkn
  show Calls Try.prog 37 #[.int .i64 (k : Int), .pointer (some ⟨C, 0, none⟩)] w fun e w' => e = .returned (.bool (f ((k : Nat) : Int).toNat)) ∧ Below w.heap.size w w'
  rw [Int.toNat_natCast]
  generalize f k = q at t0 ⊢
  have h0 : (0 : Int) ≤ (k : Int) := by omega
  have h1 : (k : Int) < (n : Int) := by omega
  clear hb hc hcc hx hl hw hk hkn
  go_enter Try.func37, Try.ntmps37
  go_wp2
  go_ret
  exact ⟨rfl, Below.refl _ _⟩
/-- What Ear gives. -/
def earW (S : Sc) (n : Nat) (f : Nat → Bool) (r : Int) : Option Nat := if checkE S = 0 ∧ n = S.nr then Acy.witI (attrs S) ((List.range S.nr).filter f) r else none
set_option maxHeartbeats 3200000 in
set_option maxRecDepth 100000 in
theorem Ear_any {w : World} {S : Sc} {V : Sv} {A : Option Addr} {n c : Nat} {f : Nat → Bool} (r : Int) (h : SchIn w S V) (hb : BoolAt w A n f) (hn : n ≤ 1000) :
    Calls Try.prog 12 #[.agg #[.slice V.A S.na V.ca, .slice V.R S.nr V.cr, .slice V.F S.nf V.cf, .int .i64 S.label], .slice A n c, .int .i64 r] w fun e w' => e = .returned (witV (earW S n f r)) ∧ Below w.heap.size w w' := by
  have hg : Below w.heap.size w ((w.alloc (.cells #[.slice V.A S.na V.ca, .slice V.R S.nr V.cr, .slice V.F S.nf V.cf, .int .i64 S.label] 28)).alloc (.cells #[.slice A n c] 36)) := by go_grown
  have hr2 : ((w.alloc (.cells #[.slice V.A S.na V.ca, .slice V.R S.nr V.cr, .slice V.F S.nf V.cf, .int .i64 S.label] 28)).alloc (.cells #[.slice A n c] 36)).heap[w.heap.size + 1]? = some (.cells #[.slice A n c] 36 (0, 0)) := block_new _ (by simp)
  have H := Lib.hid (And.intro h (And.intro hg (And.intro (Box4.below (Box4.new (w := w) (S := S) (V := V)) ((Below.refl _ _).alloc (Nat.le_refl _) (.cells #[.slice A n c] 36))) (And.intro hr2 hb))))
  clear h hg hr2 hb
  go_enter Try.func12, Try.ntmps12
  go_wp2_with fail
  refine (check_any (H.out.1.below H.out.2.1)).mono ?_
  rintro e w1 ⟨rfl, hb⟩
  have H1 := Lib.hid (And.intro (Below.step H.out.2.1 hb) (And.intro (H.out.2.2.1.below hb) ((hb.block _ (lt_of_block H.out.2.2.2.1)).trans H.out.2.2.2.1)))
  clear hb
  have q0 := H1.out.2.1.c0
  have q1 := H1.out.2.1.c1
  have q2 := H1.out.2.1.c2
  have q3 := H1.out.2.1.c3
  have t0 : w1.cell? ⟨w.heap.size + 1, 0, none⟩ = some (.slice A n c) := cell_in H1.out.2.2 rfl
  by_cases he : checkE S = 0
  · have HE := Lib.hid he
    rw [he]
    clear he
    have hnr := check_nr HE.out
    by_cases hnn : n = S.nr
    · have HN := Lib.hid (show earW S n f r = Acy.witI (attrs S) ((List.range S.nr).filter f) r by unfold earW; rw [if_pos ⟨HE.out, hnn⟩])
      have hnb : ((n : Int) == (S.nr : Int)) = true := by rw [beq_iff_eq]; omega
      have HNN := Lib.hid hnn
      clear hnn
      go_wp2_with fail
      refine (all_any (by omega)).mono ?_
      rintro e w2 ⟨v, rfl, ⟨A2, c2, rfl, hl2, hi2⟩, hb⟩
      have hbk := (hb.block _ (lt_of_block H1.out.2.2)).trans H1.out.2.2
      have hB2 := Below.step H1.out.1 hb
      have hp := pred_ear (W := w2) (C := w.heap.size + 1) (c := c) (n := n) (A := A) (l := List.range S.nr) (f := f) (lt_of_block hbk) (cell_in hbk rfl) (H.out.2.2.2.2.below hB2) (fun k hk => by rw [HNN.out]; exact List.mem_range.1 hk) hn
      have hkp := kept_any (c := c2) (l := upL S.nr) eg_ear hl2 hi2 hp
      rw [show (upL S.nr).filter (fun x => f x.toNat) = castL ((List.range S.nr).filter f) from castL_filter (List.range S.nr) fun x => f x.toNat, upL_len] at hkp
      have H2 := Lib.hid (And.intro hB2 (H1.out.2.1.below hb))
      clear hb hbk hB2 hp hi2 hl2 q0 q1 q2 q3 t0
      rw [upL_len]
      go_wp2_with fail
      refine hkp.mono ?_
      rintro e w3 ⟨v3, rfl, ⟨A3, c3, rfl, hl3, hi3⟩, hb⟩
      have H3 := Lib.hid (And.intro (Below.step H2.out.1 hb) (H2.out.2.below hb))
      have q0 := H3.out.2.c0
      have q1 := H3.out.2.c1
      have q2 := H3.out.2.c2
      have q3 := H3.out.2.c3
      rw [castL_len] at hl3 hi3 ⊢
      have hw := witness_any (c := c3) r (H.out.1.below H3.out.1) hl3 hi3 fun x hx => List.mem_range.1 (List.mem_filter.1 hx).1
      rw [← HN.out] at hw
      clear hb hi3 hkp
      cases hq : earW S n f r with
      | none =>
        rw [hq] at hw
        have HQ := Lib.hid hq
        clear hq
        go_wp2_with fail
        refine hw.mono ?_
        rintro e w4 ⟨rfl, hb⟩
        have HB := Lib.hid (Below.step H3.out.1 hb)
        clear hb
        simp only [witV]
        go_wp2
        go_ret2
        exact ⟨by rw [HQ.out]; rfl, HB.out⟩
      | some x =>
        rw [hq] at hw
        have HQ := Lib.hid hq
        clear hq
        go_wp2_with fail
        refine hw.mono ?_
        rintro e w4 ⟨rfl, hb⟩
        have HB := Lib.hid (Below.step H3.out.1 hb)
        clear hb
        simp only [witV]
        go_wp2
        go_ret2
        exact ⟨by rw [HQ.out]; rfl, HB.out⟩
    · have hnb : ((n : Int) == (S.nr : Int)) = false := by rw [beq_eq_false_iff_ne]; omega
      have HF := Lib.hid (show earW S n f r = none by unfold earW; rw [if_neg fun h => hnn h.2])
      clear hnn
      go_wp2
      go_ret2
      exact ⟨by rw [HF.out]; rfl, H1.out.1⟩
  · have heb : (checkE S == 0) = false := beq_eq_false_iff_ne.2 he
    have HF := Lib.hid (show earW S n f r = none by unfold earW; rw [if_neg fun h => he h.1])
    clear he
    go_wp2
    go_ret2
    exact ⟨by rw [HF.out]; rfl, H1.out.1⟩
end Go.Proofs.Ytiakgcaflnpmeaa
