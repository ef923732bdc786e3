/- The reference 07's Ear gives what package acyclic's gives, where the schema is valid and has no features. -/
import Derived.Test.YtiakgcaflnpmeaaAcK
namespace Go.Proofs.Ytiakgcaflnpmeaa
open Go Go.RowKit

theorem anyB_succ (n : Nat) (p : Nat → Bool) : anyB (n + 1) p = (anyB n p || p n) := by simp [anyB, List.range_succ]
theorem anyB_zero (p : Nat → Bool) : anyB 0 p = false := rfl
/-- An attribute that others of the set have, too. -/
def shB (S : Sc) (f : Nat → Bool) (i : Nat) (a : Int) (n : Nat) : Bool := anyB n fun k => f k && (k != i && hasB S k a)
def notOk (S : Sc) (f : Nat → Bool) (i x n : Nat) : Bool := anyB n fun j => shB S f i (S.rat i j) S.nr && !hasB S x (S.rat i j)
theorem notOk_ok {S : Sc} {f : Nat → Bool} {i x : Nat} : Acy.okW (attrs S) ((List.range S.nr).filter f) i x = !notOk S f i x (S.rn i) := by
  rw [Bool.eq_iff_iff, Acy.okW_true, Bool.not_eq_true', notOk, anyB_false]
  constructor
  · intro h j hj
    cases hs : shB S f i (S.rat i j) S.nr with
    | false => rfl
    | true =>
      obtain ⟨k, hk, h2⟩ := anyB_true.1 hs
      simp only [Bool.and_eq_true, bne_iff_ne, ne_eq] at h2
      have hm := h (S.rat i j) ⟨by simp only [attrs, List.mem_map, List.mem_range]; exact ⟨j, hj, rfl⟩, k, by simp [hk, h2.1], h2.2.1, by have := h2.2.2; rw [attrs_mem, List.contains_iff_mem] at this; exact this⟩
      rw [attrs_mem, List.contains_iff_mem.2 hm]; rfl
  · rintro h a ⟨h1, k, h2, h3, h4⟩
    simp only [attrs, List.mem_map, List.mem_range] at h1
    obtain ⟨j, hj, rfl⟩ := h1
    have h5 := h j hj
    rw [show shB S f i (S.rat i j) S.nr = true from by
      obtain ⟨h6, h7⟩ := List.mem_filter.1 h2
      exact anyB_hit (List.mem_range.1 h6) (by rw [h7, attrs_mem, List.contains_iff_mem.2 h4, bne_iff_ne.2 h3]; rfl)] at h5
    have h6 : hasB S x (S.rat i j) = true := by simpa using h5
    rw [attrs_mem, List.contains_iff_mem] at h6; exact h6
theorem wit_find {S : Sc} {f : Nat → Bool} {i : Nat} : Acy.wit (attrs S) ((List.range S.nr).filter f) i = (List.range S.nr).find? fun x => f x && (x != i && !notOk S f i x (S.rn i)) := by
  unfold Acy.wit Acy.oth
  rw [List.filter_filter, List.find?_filter]
  congr 1
  funext x
  rw [notOk_ok]
  cases f x <;> cases (x != i) <;> simp
theorem ear_hit {S : Sc} {f : Nat → Bool} {i x : Nat} (hv : Valid S) (hi : i < S.nr) (hfi : f i = true) (hx : x < S.nr) (hfx : f x = true) (hne : x ≠ i) (hok : notOk S f i x (S.rn i) = false) (hn : ∀ y, y < x → f y = true → y ≠ i → notOk S f i y (S.rn i) = true) : earW S S.nr f (i : Int) = some x := by
  unfold earW
  rw [if_pos ⟨hv.check, rfl⟩]
  unfold Acy.witI
  rw [if_pos ⟨by omega, by simpa [hi] using hfi⟩, Int.toNat_natCast, wit_find, List.find?_range_eq_some]
  refine ⟨by simp [hfx, hne, hok], List.mem_range.2 hx, fun y hy => ?_⟩
  cases h1 : f y with
  | false => rfl
  | true =>
    by_cases h2 : y = i
    · simp [h2]
    · simp [hn y hy h1 h2]
theorem ear_miss {S : Sc} {f : Nat → Bool} {i : Nat} (hv : Valid S) (hn : f i = true → ∀ y, y < S.nr → f y = true → y ≠ i → notOk S f i y (S.rn i) = true) : earW S S.nr f (i : Int) = none := by
  unfold earW
  rw [if_pos ⟨hv.check, rfl⟩]
  unfold Acy.witI
  split
  · rename_i h
    rw [Int.toNat_natCast] at h ⊢
    have hfi : f i = true := (List.mem_filter.1 h.2).2
    rw [wit_find, List.find?_eq_none]
    intro y hy
    cases h1 : f y with
    | false => simp
    | true =>
      by_cases h2 : y = i
      · simp [h2]
      · simp [hn hfi y (List.mem_range.1 hy) h1 h2]
  · rfl
theorem has05 {w : World} {S : Sc} {A : Option Addr} {k c : Nat} (a : Int) (hn : S.rn k ≤ 1000) (h : IntAt w A (S.rn k) (S.rat k)) :
    Calls Try.prog 39 #[.slice A (S.rn k) c, .int .i64 a] w fun e w' => e = .returned (.bool (hasB S k a)) ∧ w' = w := by
  have := in05_int (c := c) (l := attrs S k) a (by rw [attrs_len]; exact hn) h.attrs
  rw [attrs_len, show decide (a ∈ attrs S k) = hasB S k a by rw [attrs_mem, List.contains_eq_mem]] at this
  exact this
set_option maxHeartbeats 3200000 in
set_option maxRecDepth 100000 in
theorem ear07 {w : World} {S : Sc} {V : Sv} {A : Option Addr} {c : Nat} {f : Nat → Bool} {i : Nat} (h : SchIn w S V) (hv : Valid S) (hf : S.nf = 0) (hl : S.label = -1) (hb : BoolAt w A S.nr f) (hi : i < S.nr) :
    Calls Try.prog 18 #[.agg #[.slice V.A S.na V.ca, .slice V.R S.nr V.cr, .slice V.F S.nf V.cf, .int .i64 S.label], .slice A S.nr c, .int .i64 (i : Int)] w fun e w' => e = .returned (witV (earW S S.nr f (i : Int))) ∧ Below w.heap.size w w' := by
  obtain ⟨ba, oa, rfl, hba, hbc⟩ := hb hv.nr1
  obtain ⟨br, or', hVR, hbr, hcr0⟩ := h.rel hv.nr1
  rcases V with ⟨VA, ca, R, cr, F, cf, L⟩
  simp only at hVR hcr0
  subst hVR
  have hg : Below w.heap.size w (w.alloc (.cells #[.slice VA S.na ca, .slice (some ⟨br, or', none⟩) S.nr cr, .slice F S.nf cf, .int .i64 S.label] 28)) := (Below.refl _ _).alloc (Nat.le_refl _) _
  have hcon := check05 (h.below hg) hv hf hl
  have n2 : S.nr ≤ 6 := hv.nr2
  have hcr := h.cr
  have hcrm := h.crm
  unfold maxLen at hcrm
  simp only at hcr hcrm
  have H := Lib.hid (And.intro h (And.intro hg (And.intro (Box4.new (w := w) (S := S) (V := ⟨VA, ca, some ⟨br, or', none⟩, cr, F, cf, L⟩)) (And.intro hv (And.intro hba (And.intro hbc (And.intro hbr hcr0)))))))
  clear h hg hv hf hl hb hba hbc hbr hcr0
  have i0 : (0 : Int) ≤ (i : Int) := by omega
  have i1 : (i : Int) < (S.nr : Int) := by omega
  have i2 : decide ((i : Int) < 0) = false := decide_eq_false (by omega)
  have i3 : decide (S.nr ≤ i) = false := decide_eq_false (by omega)
  have i4 : decide ((S.nr : Int) ≤ (i : Int)) = false := decide_eq_false (by omega)
  go_enter Try.func18, Try.ntmps18
  go_wp2_with fail
  refine hcon.mono ?_
  rintro e w1 ⟨rfl, hb⟩
  have H1 := Lib.hid (And.intro (Below.step H.out.2.1 hb) (H.out.2.2.1.below hb))
  clear hb hcon
  have q1 := H1.out.2.c1
  have t0 : w1.cell? ⟨ba, oa + i, none⟩ = some (.bool (f i)) := (H1.out.1.cell H.out.2.2.2.2.1).trans (H.out.2.2.2.2.2.1 i hi)
  have HB : Hid (∀ k, k < S.nr → w1.cell? ⟨ba, oa + k, none⟩ = some (.bool (f k))) := Lib.hid fun k hk => (H1.out.1.cell H.out.2.2.2.2.1).trans (H.out.2.2.2.2.2.1 k hk)
  have HX : Hid (∀ k, k < S.nr → S.rn k ≤ 1000 ∧ ∃ b off lc, w1.cell? ⟨br, or' + k * 2 + 1, none⟩ = some (.slice (some ⟨b, off, none⟩) (S.rn k) lc) ∧ IntAt w1 (some ⟨b, off, none⟩) (S.rn k) (S.rat k) ∧ ∀ j, j < S.rn k → w1.cell? ⟨b, off + j, none⟩ = some (.int .i64 (S.rat k j))) := Lib.hid fun k hk => by
    have hin := H.out.1.ints k hk
    rcases hL : L k with ⟨Ai, li, ci⟩
    simp only [hL] at hin
    obtain ⟨e1, e2, e3⟩ := hin
    subst e1
    have e4 := e3.below H1.out.1
    obtain ⟨b, off, rfl, _, hcc⟩ := e4 (H.out.2.2.2.1.rn k hk)
    refine ⟨e2, b, off, ci, ?_, e4, hcc⟩
    rw [(H1.out.1.cell H.out.2.2.2.2.2.2.1).trans (H.out.2.2.2.2.2.2.2 k hk).2, hL]
  cases hfi : f i with
  | false =>
    rw [hfi] at t0
    have HQ := Lib.hid (ear_miss H.out.2.2.2.1 fun h => by rw [hfi] at h; exact absurd h (by decide) : earW S S.nr f (i : Int) = none)
    clear hfi
    go_wp2
    go_ret2
    exact ⟨by rw [HQ.out]; rfl, H1.out.1⟩
  | true =>
    rw [hfi] at t0
    have HFI := Lib.hid hfi
    clear hfi
    go_wp2_with fail
    clear t0
    go_loopg [44] S.nr (fun gg s44 wr => ∃ x : Nat, x + gg = S.nr ∧ s44 = .int .i64 (x : Int) ∧ wr = w1 ∧ Hid (∀ y, y < x → f y = true → y ≠ i → notOk S f i y (S.rn i) = true))
    case atStart => exact ⟨0, by omega, rfl, rfl, Lib.hid fun _ h => absurd h (by omega)⟩
    case round =>
      obtain ⟨x, hx, rfl, hw, HR⟩ := hrel
      have hw2 := hw.symm
      clear hw
      subst hw2
      by_cases hxl : x < S.nr
      · have t0 := HB.out x hxl
        have x1 : (x : Int) < (S.nr : Int) := by omega
        cases hfx : f x with
        | false =>
          rw [hfx] at t0
          have HF := Lib.hid hfx
          clear hfx
          go_wp2
          go_roundg (S.nr - (x + 1))
          case rel => exact ⟨x + 1, by omega, by go_num, rfl, Lib.hid fun y hy h1 h2 => by
            by_cases e : y = x
            · rw [e, HF.out] at h1; exact absurd h1 (by decide)
            · exact HR.out y (by omega) h1 h2⟩
          case measure => omega
        | true =>
          rw [hfx] at t0
          have HF := Lib.hid hfx
          clear hfx
          by_cases hxi : x = i
          · have hxb : ((x : Int) == (i : Int)) = true := by rw [beq_iff_eq]; omega
            have HXI := Lib.hid hxi
            clear hxi
            go_wp2
            go_roundg (S.nr - (x + 1))
            case rel => exact ⟨x + 1, by omega, by go_num, rfl, Lib.hid fun y hy h1 h2 => by
              by_cases e : y = x
              · exact absurd (e.trans HXI.out) h2
              · exact HR.out y (by omega) h1 h2⟩
            case measure => omega
          · have hxb : ((x : Int) == (i : Int)) = false := by rw [beq_eq_false_iff_ne]; omega
            have HXI := Lib.hid hxi
            obtain ⟨hrn, bi, oi, lci, c1, hxx, hcc⟩ := HX.out i hi
            have HC := Lib.hid (And.intro hxx hcc)
            clear hxi hxx hcc
            go_wp2_with fail
            clear t0 c1
            go_loopg [9, 64] (S.rn i) (fun gg s9 s64 wr => ∃ k : Nat, k + gg = S.rn i ∧ s64 = .int .i64 (k : Int) ∧ s9 = .bool (!notOk S f i x k) ∧ wr = w1)
            case atStart => exact ⟨0, by omega, rfl, rfl, rfl⟩
            case round =>
              obtain ⟨k, hk, rfl, rfl, hw⟩ := hrel
              have hw2 := hw.symm
              clear hw
              subst hw2
              generalize hq : notOk S f i x k = q at *
              have HQ := Lib.hid hq
              clear hq
              by_cases hkl : k < S.rn i
              · have c0 := HC.out.2 k hkl
                obtain ⟨a, ha⟩ : ∃ a, a = S.rat i k := ⟨_, rfl⟩
                rw [← ha] at c0
                have HA := Lib.hid ha
                clear ha
                have k1 : (k : Int) < (S.rn i : Int) := by omega
                go_wp2_with fail
                clear c0
                go_loop [12, 70] (fun s12 s70 => ∃ t : Nat, t ≤ S.nr ∧ s70 = .int .i64 (t : Int) ∧ s12 = .bool (shB S f i a t)) (fun s12 s70 => S.nr - (intOf s70).toNat)
                case atStart => exact ⟨0, by omega, rfl, rfl⟩
                case round =>
                  obtain ⟨t, ht, rfl, rfl⟩ := hrel
                  generalize hs : shB S f i a t = s at *
                  have HS := Lib.hid hs
                  clear hs
                  by_cases htl : t < S.nr
                  · have t0 := HB.out t htl
                    have t1 : (t : Int) < (S.nr : Int) := by omega
                    cases s with
                    | true =>
                      go_wp2
                      go_round
                      case rel => exact ⟨t + 1, by omega, by go_num, congrArg Value.bool (by show true = anyB (t + 1) _; rw [anyB_succ, show anyB t _ = true from HS.out]; rfl)⟩
                      case measure => simp [intOf]; omega
                    | false =>
                      cases hft : f t with
                      | false =>
                        rw [hft] at t0
                        have HF2 := Lib.hid hft
                        clear hft
                        go_wp2
                        go_round
                        case rel => exact ⟨t + 1, by omega, by go_num, congrArg Value.bool (by show false = anyB (t + 1) _; rw [anyB_succ, show anyB t _ = false from HS.out, HF2.out]; rfl)⟩
                        case measure => simp [intOf]; omega
                      | true =>
                        rw [hft] at t0
                        have HF2 := Lib.hid hft
                        clear hft
                        by_cases hti : t = i
                        · have htb : ((t : Int) != (i : Int)) = false := by rw [bne_eq_false_iff_eq]; omega
                          have HTI := Lib.hid (show (t != i) = false by simp [hti])
                          clear hti
                          go_wp2
                          go_round
                          case rel => exact ⟨t + 1, by omega, by go_num, congrArg Value.bool (by show false = anyB (t + 1) _; rw [anyB_succ, show anyB t _ = false from HS.out, HF2.out, HTI.out]; rfl)⟩
                          case measure => simp [intOf]; omega
                        · have htb : ((t : Int) != (i : Int)) = true := by rw [bne_iff_ne]; omega
                          have HTI := Lib.hid (show (t != i) = true by simp [hti])
                          clear hti
                          obtain ⟨hrt, bt, ot, lct, c1, hxx, _⟩ := HX.out t htl
                          have hin := has05 (c := lct) a hrt hxx
                          clear hxx
                          generalize hg : hasB S t a = z at hin
                          have HG := Lib.hid hg
                          clear hg
                          go_wp2_with fail
                          refine hin.mono ?_
                          rintro e w' ⟨rfl, rfl⟩
                          go_wp2
                          go_round
                          case rel => exact ⟨t + 1, by omega, by go_num, congrArg Value.bool (by show z = anyB (t + 1) _; rw [anyB_succ, show anyB t _ = false from HS.out, HF2.out, HTI.out, HG.out]; rfl)⟩
                          case measure => simp [intOf]; omega
                  · have ein : t = S.nr := by omega
                    have HS2 := Lib.hid (show shB S f i (S.rat i k) S.nr = s by rw [← ein, ← HA.out]; exact HS.out)
                    rw [ein]
                    clear htl ht ein
                    cases q with
                    | true =>
                      go_wp2
                      go_roundg (S.rn i - (k + 1))
                      case rel => exact ⟨k + 1, by omega, by go_num, congrArg Value.bool (by show false = !anyB (k + 1) _; rw [anyB_succ, show anyB k _ = true from HQ.out]; rfl), rfl⟩
                      case measure => omega
                    | false =>
                      cases s with
                      | false =>
                        go_wp2
                        go_roundg (S.rn i - (k + 1))
                        case rel => exact ⟨k + 1, by omega, by go_num, congrArg Value.bool (by show true = !anyB (k + 1) _; rw [anyB_succ, show anyB k _ = false from HQ.out, HS2.out]; rfl), rfl⟩
                        case measure => omega
                      | true =>
                        obtain ⟨hrt, bt, ot, lct, c1, hxx, _⟩ := HX.out x hxl
                        have hin := has05 (c := lct) a hrt hxx
                        clear hxx
                        generalize hg : hasB S x a = z at hin
                        have HG := Lib.hid hg
                        clear hg
                        go_wp2_with fail
                        refine hin.mono ?_
                        rintro e w' ⟨rfl, rfl⟩
                        go_wp2
                        go_roundg (S.rn i - (k + 1))
                        case rel => exact ⟨k + 1, by omega, by go_num, congrArg Value.bool (by show z = !anyB (k + 1) _; rw [anyB_succ, show anyB k _ = false from HQ.out, HS2.out, ← HA.out, HG.out]; cases z <;> rfl), rfl⟩
                        case measure => omega
              · have ein : k = S.rn i := by omega
                have HQ2 := Lib.hid (show notOk S f i x (S.rn i) = q by rw [← ein]; exact HQ.out)
                rw [ein]
                clear hkl hk ein
                cases q with
                | true =>
                  go_wp2
                  go_roundg (S.nr - (x + 1))
                  case rel => exact ⟨x + 1, by omega, by go_num, rfl, Lib.hid fun y hy h1 h2 => by
                    by_cases e : y = x
                    · rw [e]; exact HQ2.out
                    · exact HR.out y (by omega) h1 h2⟩
                  case measure => omega
                | false =>
                  have HE := Lib.hid (ear_hit H.out.2.2.2.1 hi HFI.out hxl HF.out HXI.out HQ2.out HR.out)
                  go_wp2
                  go_ret2
                  exact ⟨by rw [HE.out]; rfl, H1.out.1⟩
      · have ein : x = S.nr := by omega
        have HQ := Lib.hid (ear_miss H.out.2.2.2.1 fun _ y hy => HR.out y (by omega) : earW S S.nr f (i : Int) = none)
        rw [ein]
        clear hxl hx ein
        go_wp2
        go_ret2
        exact ⟨by rw [HQ.out]; rfl, H1.out.1⟩
end Go.Proofs.Ytiakgcaflnpmeaa
