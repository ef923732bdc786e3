/- Package acyclic: Closed. What the laws want of the pure functions. -/
import Derived.Test.YtiakgcaflnpmeaaAcH
namespace Go.Proofs.Ytiakgcaflnpmeaa
open Go Go.RowKit

def closedB (S : Sc) (o c : List Int) : Bool := decide (checkE S = 0) && Acy.closed (attrs S) S.nr o c
theorem closeL_none {A : Nat → List Int} {E : List Nat} {r : Int} {o : List Int} (h : Acy.witI A E r = none) : Acy.closeL A (r :: o) E = none := by
  unfold Acy.closeL; rw [h]
theorem closeL_some {A : Nat → List Int} {E : List Nat} {r : Int} {o : List Int} {x : Nat} (h : Acy.witI A E r = some x) : Acy.closeL A (r :: o) E = Acy.closeL A o (Acy.oth E r.toNat) := by
  conv => lhs; unfold Acy.closeL
  rw [h]
set_option linter.unusedSimpArgs false in
set_option maxHeartbeats 6400000 in
set_option maxRecDepth 100000 in
theorem Closed_any {w : World} {S : Sc} {V : Sv} {A A' : Option Addr} {c c' : Nat} {o d : List Int} (h : SchIn w S V) (hol : o.length ≤ 1000) (hdl : d.length ≤ 1000) (ho : IntAt w A o.length fun i => o.getD i 0) (hd : IntAt w A' d.length fun i => d.getD i 0) :
    Calls Try.prog 28 #[.agg #[.slice V.A S.na V.ca, .slice V.R S.nr V.cr, .slice V.F S.nf V.cf, .int .i64 S.label], .slice A o.length c, .slice A' d.length c'] w fun e w' => e = .returned (.bool (closedB S o d)) ∧ Below w.heap.size w w' := by
  have hg : Below w.heap.size w (w.alloc (.cells #[.slice V.A S.na V.ca, .slice V.R S.nr V.cr, .slice V.F S.nf V.cf, .int .i64 S.label] 28)) := (Below.refl _ _).alloc (Nat.le_refl _) _
  have H := Lib.hid (And.intro h (And.intro hg (And.intro (Box4.new (w := w) (S := S) (V := V)) (And.intro ho hd))))
  clear h hg ho hd
  go_enter Try.func28, Try.ntmps28
  go_wp2_with fail
  refine (check_any (H.out.1.below H.out.2.1)).mono ?_
  rintro e w1 ⟨rfl, hb⟩
  have H1 := Lib.hid (And.intro (Below.step H.out.2.1 hb) (H.out.2.2.1.below hb))
  clear hb
  have q0 := H1.out.2.c0
  have q1 := H1.out.2.c1
  have q2 := H1.out.2.c2
  have q3 := H1.out.2.c3
  by_cases he : checkE S = 0
  · have HE := Lib.hid he
    rw [he]
    clear he
    have hnr := check_nr HE.out
    by_cases h2 : d.length < 2
    · have h2i : (d.length : Int) < 2 := by omega
      have HF := Lib.hid (show closedB S o d = false by unfold closedB Acy.closed; rw [decide_eq_false (by omega : ¬ 2 ≤ d.length), Bool.false_and, Bool.and_false])
      go_wp2
      go_ret
      exact ⟨ret_b HF.out, H1.out.1⟩
    · have h2i : ¬ (d.length : Int) < 2 := by omega
      have HD := Lib.hid (show ∀ x, Acy.closeL (attrs S) o (List.range S.nr) = x → closedB S o d = match x with | none => false | some E => (E.map fun (x : Nat) => (x : Int)) == d && (Acy.ear1 (attrs S) E).isNone from fun x hx => by
        unfold closedB Acy.closed
        rw [hx, decide_eq_true HE.out, decide_eq_true (by omega : 2 ≤ d.length)]
        cases x <;> rfl)
      go_wp2_with fail
      refine (all_any (by omega)).mono ?_
      rintro e w2 ⟨v, rfl, ⟨A2, c2, rfl, hl2, hi2⟩, hb⟩
      have H2 := Lib.hid (And.intro (Below.step H1.out.1 hb) (And.intro (H1.out.2.below hb) hi2))
      have hn6 : S.nr ≤ 6 := hnr.2.1
      clear hb hi2 hl2 hnr q0 q1 q2 q3
      go_wp2_with fail
      go_loopg [7, 26] o.length (fun gg s7 s26 wr => ∃ (A3 : Option Addr) (c3 : Nat) (E : List Nat) (i : Nat), i + gg = o.length ∧ s7 = .slice A3 E.length c3 ∧ s26 = .int .i64 (i : Int) ∧ Hid (Below w.heap.size w wr ∧ Box4 wr w.heap.size S V ∧ IntAt wr A3 E.length (fun i => (castL E).getD i 0) ∧ (∀ x, x ∈ E → x < S.nr) ∧ E.length ≤ 6 ∧ Acy.closeL (attrs S) o (List.range S.nr) = Acy.closeL (attrs S) (o.drop i) E))
      case atStart =>
        refine ⟨A2, c2, List.range S.nr, 0, by omega, by rw [List.length_range, upL_len], rfl, Lib.hid ⟨H2.out.1, H2.out.2.1, ?_, fun x hx => List.mem_range.1 hx, by simpa using hn6, rfl⟩⟩
        have := H2.out.2.2
        rw [upL_len] at this
        rw [List.length_range]
        exact this
      case round =>
        obtain ⟨A3, c3, E, i, hi, rfl, rfl, HR⟩ := hrel
        have q0 := HR.out.2.1.c0
        have q1 := HR.out.2.1.c1
        have q2 := HR.out.2.1.c2
        have q3 := HR.out.2.1.c3
        have hE6 := HR.out.2.2.2.2.1
        by_cases hlt : i < o.length
        · obtain ⟨b, off, rfl, hbl, hc⟩ := (H.out.2.2.2.1.below HR.out.1) (by omega)
          have c0 : wr.cell? ⟨b, off + i, none⟩ = some (.int .i64 (o.getD i 0)) := hc i hlt
          have hdr : o.drop i = o.getD i 0 :: o.drop (i + 1) := by rw [show o.getD i 0 = o[i] by simp [List.getD, hlt]]; exact List.drop_eq_getElem_cons hlt
          have hcl := HR.out.2.2.2.2.2
          rw [hdr] at hcl
          have hw := witness_any (c := c3) (o.getD i 0) (H.out.1.below HR.out.1) (by omega) HR.out.2.2.1 HR.out.2.2.2.1
          obtain ⟨r, hr⟩ : ∃ r, r = o.getD i 0 := ⟨_, rfl⟩
          rw [← hr] at c0 hcl hw
          have HRR := Lib.hid hr
          clear hc hbl hdr hr
          cases hq : Acy.witI (attrs S) E r with
          | none =>
            rw [hq] at hw
            rw [closeL_none hq] at hcl
            have HF := Lib.hid (show closedB S o d = false from HD.out none hcl)
            clear hq hcl
            go_wp2_with fail
            refine hw.mono ?_
            rintro e w4 ⟨rfl, hb⟩
            have HB := Lib.hid (Below.step HR.out.1 hb)
            clear hb q0 q1 q2 q3
            simp only [witV]
            go_wp2
            go_ret
            exact ⟨ret_b HF.out, HB.out⟩
          | some x =>
            rw [hq] at hw
            rw [closeL_some hq] at hcl
            have hr0 : 0 ≤ r ∧ r.toNat ∈ E := by
              unfold Acy.witI at hq
              by_cases hc : 0 ≤ r ∧ r.toNat ∈ E
              · exact hc
              · rw [if_neg hc] at hq; exact absurd hq (by simp)
            have hro : ((r.toNat : Nat) : Int) = r := Int.toNat_of_nonneg hr0.1
            have HQ := Lib.hid (And.intro hcl hro)
            clear hq hcl hr0 hro
            go_wp2_with fail
            refine hw.mono ?_
            rintro e w4 ⟨rfl, hb⟩
            have HB := Lib.hid (And.intro (Below.step HR.out.1 hb) (And.intro (HR.out.2.1.below hb) (HR.out.2.2.1.below hb)))
            have hwo := without_any (w := w4) (A := A3) (c := c3) (l := castL E) (a := r) (by rw [castL_len]; omega) (by rw [castL_len]; exact HB.out.2.2)
            rw [show (castL E).filter (fun x => x != r) = castL (Acy.oth E r.toNat) by rw [← castL_oth, HQ.out.2], castL_len] at hwo
            clear hb q0 q1 q2 q3 hw
            simp only [witV]
            go_wp2_with fail
            refine hwo.mono ?_
            rintro e w5 ⟨v, rfl, ⟨A5, c5, rfl, hl5, hi5⟩, hb⟩
            rw [castL_len] at hi5 ⊢
            have hlo : (Acy.oth E r.toNat).length ≤ E.length := List.length_filter_le _ _
            have HC := Lib.hid (And.intro (Below.step HB.out.1 hb) (And.intro (HB.out.2.1.below hb) (And.intro hi5 hlo)))
            clear hb hi5 hl5 hlo hwo
            go_wp2
            go_roundg (o.length - (i + 1))
            case measure => omega
            case rel => exact ⟨A5, c5, Acy.oth E r.toNat, i + 1, by omega, rfl, by go_num, Lib.hid ⟨HC.out.1, HC.out.2.1, HC.out.2.2.1, fun y hy => HR.out.2.2.2.1 y (Acy.mem_oth.1 hy).1, Nat.le_trans HC.out.2.2.2 hE6, HQ.out.1⟩⟩
        · have ein : i = o.length := by omega
          have hcl := HR.out.2.2.2.2.2
          rw [ein, List.drop_length] at hcl
          have HF := Lib.hid (HD.out _ hcl)
          have hle := leastEar_any (c := c3) (H.out.1.below HR.out.1) (by omega) HR.out.2.2.1 HR.out.2.2.2.1
          rw [ein]
          clear hlt hi ein hcl
          go_upto_region 12 with fail
          cases hq : Acy.ear1 (attrs S) E with
          | none =>
            rw [hq] at hle
            have HQ := Lib.hid (show closedB S o d = decide (castL E = d) by
              rw [HF.out]
              show ((castL E) == d && (Acy.ear1 (attrs S) E).isNone) = _
              rw [hq]
              show ((castL E) == d && true) = _
              rw [Bool.and_true, Bool.eq_iff_iff, beq_iff_eq, decide_eq_true_eq])
            clear hq
            go_wp2_with fail
            refine hle.mono ?_
            rintro e w4 ⟨rfl, hb⟩
            have HB := Lib.hid (And.intro (Below.step HR.out.1 hb) (HR.out.2.2.1.below hb))
            clear hb q0 q1 q2 q3 hle
            have hg5 : Below w4.heap.size w4 (w4.alloc (.cells #[.int .i64 0, .int .i64 0] 73)) := (Below.refl _ _).alloc (Nat.le_refl _) _
            have hB5 := Below.step HB.out.1 hg5
            have heq := equal_ints (w := w4.alloc (.cells #[.int .i64 0, .int .i64 0] 73)) (A := A3) (c := c3) (A' := A') (c' := c') (l := castL E) (m := d) (by rw [castL_len]; omega) hdl (by rw [castL_len]; exact HB.out.2.below hg5) (H.out.2.2.2.2.below hB5)
            rw [← HQ.out, castL_len] at heq
            have HC := Lib.hid hB5
            obtain ⟨q, hq⟩ : ∃ q, q = closedB S o d := ⟨_, rfl⟩
            rw [← hq] at heq
            have HQQ := Lib.hid hq.symm
            clear hq hB5 hg5
            simp only [earV]
            go_wp2_with fail
            refine heq.mono ?_
            rintro e w6 ⟨rfl, hb⟩
            have HDD := Lib.hid (Below.step HC.out hb)
            clear hb heq
            cases q with
            | true =>
              go_wp2
              go_ret
              exact ⟨ret_b HQQ.out, HDD.out⟩
            | false =>
              go_wp2
              go_ret
              exact ⟨ret_b HQQ.out, HDD.out⟩
          | some x =>
            rw [hq] at hle
            have HQ := Lib.hid (show closedB S o d = false by
              rw [HF.out]
              show ((castL E) == d && (Acy.ear1 (attrs S) E).isNone) = _
              rw [hq]
              exact Bool.and_false _)
            clear hq
            go_wp2_with fail
            refine hle.mono ?_
            rintro e w4 ⟨rfl, hb⟩
            have HB := Lib.hid (And.intro (Below.step HR.out.1 hb) (HR.out.2.2.1.below hb))
            clear hb q0 q1 q2 q3 hle
            have hg5 : Below w4.heap.size w4 (w4.alloc (.cells #[.int .i64 (x.1 : Int), .int .i64 (x.2 : Int)] 73)) := (Below.refl _ _).alloc (Nat.le_refl _) _
            have hB5 := Below.step HB.out.1 hg5
            have heq := equal_ints (w := w4.alloc (.cells #[.int .i64 (x.1 : Int), .int .i64 (x.2 : Int)] 73)) (A := A3) (c := c3) (A' := A') (c' := c') (l := castL E) (m := d) (by rw [castL_len]; omega) hdl (by rw [castL_len]; exact HB.out.2.below hg5) (H.out.2.2.2.2.below hB5)
            rw [castL_len] at heq
            have HC := Lib.hid hB5
            obtain ⟨q, hq⟩ : ∃ q, q = decide (castL E = d) := ⟨_, rfl⟩
            rw [← hq] at heq
            clear hq hB5 hg5
            simp only [earV]
            go_wp2_with fail
            refine heq.mono ?_
            rintro e w6 ⟨rfl, hb⟩
            have HDD := Lib.hid (Below.step HC.out hb)
            clear hb heq
            cases q with
            | true =>
              go_wp2
              go_ret
              exact ⟨ret_b HQ.out, HDD.out⟩
            | false =>
              go_wp2
              go_ret
              exact ⟨ret_b HQ.out, HDD.out⟩
  · have heb : (checkE S == 0) = false := beq_eq_false_iff_ne.2 he
    have HF := Lib.hid (show closedB S o d = false by unfold closedB; rw [decide_eq_false he, Bool.false_and])
    go_wp2
    go_ret
    exact ⟨ret_b HF.out, H1.out.1⟩
end Go.Proofs.Ytiakgcaflnpmeaa
