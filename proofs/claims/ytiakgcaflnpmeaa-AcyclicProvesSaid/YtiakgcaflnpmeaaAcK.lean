/- The reference 05 takes a valid schema without features for one. -/
import Derived.Test.YtiakgcaflnpmeaaAcJ
namespace Go.Proofs.Ytiakgcaflnpmeaa
open Go Go.RowKit

theorem infoBool5 : (Try.prog.info? 4).map (fun i => (i.zero, i.size, i.bytes)) = some (some (.bool false), 1, 1) := by kernel_rfl
theorem make_bool5 (n : Nat) (hn : n ≤ 1000) (w : World) :
    (Instr.makeSlice 36 (.int .i64 (n : Int)) (.int .i64 (n : Int))).run Try.prog w = .ok (.slice (some ⟨w.heap.size, 0, none⟩) n n) (w.alloc (.cells (madeCells #[Value.bool false] n) 4)) := by
  obtain ⟨i, hi, hz, hs, hb⟩ := info_parts infoBool5
  have h := run_make (P := Try.prog) w 36 4 i _ Try.underlying36 hi hz .i64 .i64 n n (by omega) (by omega) (by rw [hb]; omega) (by omega)
  rw [hs, Nat.mul_one] at h
  simpa [Value.cells] using h
theorem Box4.low {w w' : World} {B N : Nat} {S : Sc} {V : Sv} (h : Box4 w B S V) (hb : Below N w w') (hN : B < N) : Box4 w' B S V :=
  ⟨(hb.cell hN).trans h.c0, (hb.cell hN).trans h.c1, (hb.cell hN).trans h.c2, (hb.cell hN).trans h.c3, Nat.lt_of_lt_of_le h.lt hb.size⟩
theorem names_ne {s t : ByteArray} (h : s ≠ t) : (s.toList == t.toList) = false := by rw [toList_same]; exact sameB_false.2 h
set_option maxHeartbeats 3200000 in
set_option maxRecDepth 100000 in
theorem check05 {w : World} {S : Sc} {V : Sv} (h : SchIn w S V) (hv : Valid S) (hf : S.nf = 0) (hl : S.label = -1) :
    Calls Try.prog 44 #[.agg #[.slice V.A S.na V.ca, .slice V.R S.nr V.cr, .slice V.F S.nf V.cf, .int .i64 S.label]] w fun e w' => e = .returned (.int .i64 0) ∧ Below w.heap.size w w' := by
  obtain ⟨ba, oa, hVA, hba, hca0⟩ := h.attr hv.na1
  obtain ⟨br, or', hVR, hbr, hcr0⟩ := h.rel hv.nr1
  rcases V with ⟨A, ca, R, cr, F, cf, L⟩
  simp only at hVA hVR hcr0
  subst hVA hVR
  have hcw := Lib.hid (And.intro hba (And.intro hca0 (And.intro hbr hcr0)))
  clear hba hca0 hbr hcr0
  have hg : Below w.heap.size w (w.alloc (.cells #[.slice (some ⟨ba, oa, none⟩) S.na ca, .slice (some ⟨br, or', none⟩) S.nr cr, .slice F S.nf cf, .int .i64 S.label] 28)) := (Below.refl _ _).alloc (Nat.le_refl _) _
  have a1 : ((S.na : Int) == 0) = false := by have := hv.na1; rw [beq_eq_false_iff_ne]; omega
  have a2 : ¬ (12 : Int) < (S.na : Int) := by have := hv.na2; omega
  have a3 : ((S.nr : Int) == 0) = false := by have := hv.nr1; rw [beq_eq_false_iff_ne]; omega
  have a4 : ¬ (6 : Int) < (S.nr : Int) := by have := hv.nr2; omega
  have a5 : ¬ (8 : Int) < (S.nf : Int) := by omega
  have a6 : ¬ S.label < -1 := by omega
  have a7 : ¬ (S.na : Int) ≤ S.label := by omega
  have a8 : ¬ (0 : Int) ≤ S.label := by omega
  have a9 : ¬ (0 : Int) < (S.nf : Int) := by omega
  have n1 : S.na ≤ 12 := hv.na2
  have n2 : S.nr ≤ 6 := hv.nr2
  have H := Lib.hid (And.intro h (And.intro hg (And.intro (Box4.new (w := w) (S := S) (V := ⟨some ⟨ba, oa, none⟩, ca, some ⟨br, or', none⟩, cr, F, cf, L⟩)) hv)))
  have hca := h.ca
  have hcr := h.cr
  have hcam := h.cam
  have hcrm := h.crm
  have hA := Lib.hid (And.intro a6 (And.intro a7 (And.intro a8 a9)))
  unfold maxLen at hcam hcrm
  clear h hg hv hf hl a6 a7 a8 a9
  go_enter Try.func44, Try.ntmps44
  go_wp2_with fail
  go_loopg [51] S.na (fun gg s51 wr => ∃ i : Nat, i + gg = S.na ∧ s51 = .int .i64 (i : Int) ∧ Hid (Below w.heap.size w wr ∧ Box4 wr w.heap.size S ⟨some ⟨ba, oa, none⟩, ca, some ⟨br, or', none⟩, cr, F, cf, L⟩))
  case atStart => exact ⟨0, by omega, rfl, Lib.hid ⟨H.out.2.1, H.out.2.2.1⟩⟩
  case round =>
    obtain ⟨i, hi, rfl, HR⟩ := hrel
    obtain ⟨wo, hwo⟩ : ∃ x, x = wr := ⟨_, rfl⟩
    subst hwo
    by_cases hlt : i < S.na
    · have q0 := HR.out.2.c0
      have c0 : wo.cell? ⟨ba, oa + i * 2, none⟩ = some (.string (S.name i)) := (HR.out.1.cell hcw.out.1).trans (hcw.out.2.1 i hlt).1
      have c1 : wo.cell? ⟨ba, oa + i * 2 + 1, none⟩ = some (.int .i64 (S.kind i)) := (HR.out.1.cell hcw.out.1).trans (hcw.out.2.1 i hlt).2
      have HW := Lib.hid (H.out.2.2.2.aw i hlt)
      have hk := H.out.2.2.2.ak i hlt
      have k1 : ¬ S.kind i < 1 := by omega
      have k2 : ¬ 3 < S.kind i := by omega
      have hlB : w.heap.size < wo.heap.size := HR.out.2.lt
      have hlb : ba < wo.heap.size := Nat.lt_of_lt_of_le hcw.out.1 HR.out.1.size
      clear hk
      have i1 : (i : Int) < (S.na : Int) := by omega
      go_wp2_with fail
      refine (word05 HW.out).mono ?_
      rintro e w' ⟨rfl, rfl⟩
      have HG := Lib.hid (And.intro HR.out.1 HR.out.2)
      have hG : Below wo.heap.size wo (wo.alloc (.cells #[.string (S.name i), .int .i64 (S.kind i)] 84)) := (Below.refl _ _).alloc (Nat.le_refl _) _
      have d0 : (wo.alloc (.cells #[.string (S.name i), .int .i64 (S.kind i)] 84)).cell? ⟨wo.heap.size, 0, none⟩ = some (.string (S.name i)) := by simp
      have d1 : (wo.alloc (.cells #[.string (S.name i), .int .i64 (S.kind i)] 84)).cell? ⟨wo.heap.size, 1, none⟩ = some (.int .i64 (S.kind i)) := by simp
      have hsz : (wo.alloc (.cells #[.string (S.name i), .int .i64 (S.kind i)] 84)).heap.size = wo.heap.size + 1 := by simp
      go_wp2_with fail
      generalize wo.alloc (.cells #[.string (S.name i), .int .i64 (S.kind i)] 84) = wa at *
      have HD := Lib.hid (And.intro (Below.step HG.out.1 hG) (And.intro (HG.out.2.below hG) (And.intro d0 (And.intro d1 hsz))))
      clear d0 d1 hsz hG q0 c0 c1 HG
      go_loopg [5] i (fun gg s5 wr => ∃ k : Nat, k + gg = i ∧ s5 = .int .i64 (k : Int) ∧ Hid (Below wa.heap.size wa wr))
      case atStart => exact ⟨0, by omega, rfl, Lib.hid (Below.refl _ _)⟩
      case round =>
        obtain ⟨k, hk, rfl, HQ⟩ := hrel
        by_cases hkl : k < i
        · have q0 := (HD.out.2.1.below HQ.out).c0
          have hw0 : Below w.heap.size w wr := Below.step HD.out.1 HQ.out
          have c0 : wr.cell? ⟨ba, oa + k * 2, none⟩ = some (.string (S.name k)) := (hw0.cell hcw.out.1).trans (hcw.out.2.1 k (by omega)).1
          have d0 : wr.cell? ⟨wo.heap.size, 0, none⟩ = some (.string (S.name i)) := (HQ.out.cell (by have := HD.out.2.2.2.2; show wo.heap.size < wa.heap.size; omega)).trans HD.out.2.2.1
          have hne := names_ne (H.out.2.2.2.ad i k hlt hkl)
          have j1 : (k : Int) < (S.na : Int) := by omega
          go_wp2_with fail
          go_quiet (fail)
          go_wp2
          go_roundg (i - (k + 1))
          case measure => omega
          case rel => exact ⟨k + 1, by omega, by go_num, Lib.hid (HQ.out.trans (((Drawn.refl wr).drewN nq).below _))⟩
        · have ein : k = i := by omega
          have hb := Below.step HD.out.1 HQ.out
          have hX := HD.out.2.1.below HQ.out
          have d1 : wr.cell? ⟨wo.heap.size, 1, none⟩ = some (.int .i64 (S.kind i)) := (HQ.out.cell (by have := HD.out.2.2.2.2; show wo.heap.size < wa.heap.size; omega)).trans HD.out.2.2.2.1
          have HE := Lib.hid (And.intro hb hX)
          clear hb hX
          rw [ein]
          clear hkl hk ein
          go_wp2
          go_roundg (S.na - (i + 1))
          case measure => omega
          case rel => exact ⟨i + 1, by omega, by go_num, Lib.hid HE.out⟩
    · have ein : i = S.na := by omega
      have q0 := HR.out.2.c0
      have q1 := HR.out.2.c1
      have hmk := make_bool5 S.na (by omega)
      have hlB : w.heap.size < wo.heap.size := HR.out.2.lt
      have hG : Below wo.heap.size wo (wo.alloc (.cells (madeCells #[Value.bool false] S.na) 4)) := (Below.refl _ _).alloc (Nat.le_refl _) _
      have hr0 := RowV.new wo 4 (.bool false) S.na
      obtain ⟨g, hg⟩ : ∃ g, g = wo.heap.size := ⟨_, rfl⟩
      have HG := Lib.hid (And.intro (Below.step HR.out.1 hG) (And.intro (HR.out.2.below hG) (And.intro (by rw [hg]; exact HR.out.2.lt : w.heap.size < g) (by rw [hg]; exact hr0 : RowV _ 4 g S.na fun _ => .bool false))))
      rw [ein]
      clear hlt hi ein hG hr0
      go_wp2_with fail
      rw [← hg]
      generalize wo.alloc (.cells (madeCells #[Value.bool false] S.na) 4) = w3 at *
      clear hmk hg HR q0 q1
      go_loopg [90] S.nr (fun gg s90 wr => ∃ i : Nat, i + gg = S.nr ∧ s90 = .int .i64 (i : Int) ∧ Hid (Below w.heap.size w wr ∧ Box4 wr w.heap.size S ⟨some ⟨ba, oa, none⟩, ca, some ⟨br, or', none⟩, cr, F, cf, L⟩ ∧ w.heap.size < g ∧ ∃ u : Nat → Bool, RowV wr 4 g S.na (fun j => .bool (u j)) ∧ ∀ a : Nat, a < S.na → (∃ i' j, i' < i ∧ j < S.rn i' ∧ S.rat i' j = a) → u a = true))
      case atStart => exact ⟨0, by omega, rfl, Lib.hid ⟨HG.out.1, HG.out.2.1, HG.out.2.2.1, fun _ => false, HG.out.2.2.2, fun a _ h => by obtain ⟨i', j, h, _⟩ := h; omega⟩⟩
      case round =>
        clear HG
        obtain ⟨i, hi, rfl, HR⟩ := hrel
        obtain ⟨wo, hwo⟩ : ∃ x, x = wr := ⟨_, rfl⟩
        subst hwo
        by_cases hlt : i < S.nr
        · have q1 := HR.out.2.1.c1
          rcases hL : L i with ⟨Ai, li, ci⟩
          have hin := H.out.1.ints i hlt
          simp only [hL] at hin
          obtain ⟨e1, e2, e3⟩ := hin
          subst e1
          obtain ⟨bi, oi, rfl, hbi, hci⟩ := e3 (H.out.2.2.2.rn i hlt)
          have c0 : wo.cell? ⟨br, or' + i * 2, none⟩ = some (.string (S.rname i)) := (HR.out.1.cell hcw.out.2.2.1).trans (hcw.out.2.2.2 i hlt).1
          have c1 : wo.cell? ⟨br, or' + i * 2 + 1, none⟩ = some (.slice (some ⟨bi, oi, none⟩) (S.rn i) ci) := by
            rw [(HR.out.1.cell hcw.out.2.2.1).trans (hcw.out.2.2.2 i hlt).2, hL]
          have HI := Lib.hid (And.intro hbi hci)
          have HW := Lib.hid (H.out.2.2.2.rw i hlt)
          have r0 : ((S.rn i : Int) == 0) = false := by have := H.out.2.2.2.rn i hlt; rw [beq_eq_false_iff_ne]; omega
          have hlb : br < wo.heap.size := Nat.lt_of_lt_of_le hcw.out.2.2.1 HR.out.1.size
          have i1 : (i : Int) < (S.nr : Int) := by omega
          clear hbi hci hL
          go_wp2_with fail
          refine (word05 HW.out).mono ?_
          rintro e w' ⟨rfl, rfl⟩
          have hG : Below wo.heap.size wo (wo.alloc (.cells #[.string (S.rname i), .slice (some ⟨bi, oi, none⟩) (S.rn i) ci] 33)) := (Below.refl _ _).alloc (Nat.le_refl _) _
          have d0 : (wo.alloc (.cells #[.string (S.rname i), .slice (some ⟨bi, oi, none⟩) (S.rn i) ci] 33)).heap[wo.heap.size]? = some (.cells #[.string (S.rname i), .slice (some ⟨bi, oi, none⟩) (S.rn i) ci] 33 (0, 0)) := block_new _ rfl
          have hlB : w.heap.size < wo.heap.size := HR.out.2.1.lt
          go_wp2_with fail
          generalize wo.alloc (.cells #[.string (S.rname i), .slice (some ⟨bi, oi, none⟩) (S.rn i) ci] 33) = wa at *
          obtain ⟨u, hu, hcov⟩ := HR.out.2.2.2
          have HD := Lib.hid (And.intro (Below.step HR.out.1 hG) (And.intro (HR.out.2.1.below hG) (And.intro d0 (And.intro (hu.below hG hu.lt) (And.intro hu.lt hcov)))))
          have hgB := HR.out.2.2.1
          clear d0 hG q1 c0 c1 HR hu hcov
          go_loopg [9] i (fun gg s9 wr => ∃ k : Nat, k + gg = i ∧ s9 = .int .i64 (k : Int) ∧ Hid (Below wa.heap.size wa wr))
          case atStart => exact ⟨0, by omega, rfl, Lib.hid (Below.refl _ _)⟩
          case round =>
            obtain ⟨k, hk, rfl, HQ⟩ := hrel
            have hw0 : Below w.heap.size w wr := Below.step HD.out.1 HQ.out
            have hbk := (HQ.out.block _ (lt_of_block HD.out.2.2.1)).trans HD.out.2.2.1
            by_cases hkl : k < i
            · have q1 := (HD.out.2.1.below HQ.out).c1
              have c0 : wr.cell? ⟨br, or' + k * 2, none⟩ = some (.string (S.rname k)) := (hw0.cell hcw.out.2.2.1).trans (hcw.out.2.2.2 k (by omega)).1
              have d0 : wr.cell? ⟨wo.heap.size, 0, none⟩ = some (.string (S.rname i)) := cell_in hbk rfl
              have hne := names_ne (H.out.2.2.2.rd i k hlt hkl)
              have j1 : (k : Int) < (S.nr : Int) := by omega
              clear hbk hw0
              go_wp2_with fail
              go_quiet (fail)
              go_wp2
              go_roundg (i - (k + 1))
              case measure => omega
              case rel => exact ⟨k + 1, by omega, by go_num, Lib.hid (HQ.out.trans (((Drawn.refl wr).drewN nq).below _))⟩
            · have ein : k = i := by omega
              have d1 : wr.cell? ⟨wo.heap.size, 1, none⟩ = some (.slice (some ⟨bi, oi, none⟩) (S.rn i) ci) := cell_in hbk rfl
              have HE := Lib.hid (And.intro hw0 (And.intro (HD.out.2.1.below HQ.out) (And.intro hbk (HD.out.2.2.2.1.below HQ.out HD.out.2.2.2.1.lt))))
              obtain ⟨wb, hwb⟩ : ∃ x, x = wr := ⟨_, rfl⟩
              subst hwb
              rw [ein]
              clear hkl hk ein hw0 hbk
              go_wp2_with fail
              clear d1
              go_loopg [120] (S.rn i) (fun gg s120 wr => ∃ k : Nat, k + gg = S.rn i ∧ s120 = .int .i64 (k : Int) ∧ Hid (Below w.heap.size w wr ∧ Box4 wr w.heap.size S ⟨some ⟨ba, oa, none⟩, ca, some ⟨br, or', none⟩, cr, F, cf, L⟩ ∧ wr.heap[wo.heap.size]? = some (.cells #[.string (S.rname i), .slice (some ⟨bi, oi, none⟩) (S.rn i) ci] 33 (0, 0)) ∧ ∃ u : Nat → Bool, RowV wr 4 g S.na (fun j => .bool (u j)) ∧ (∀ a : Nat, a < S.na → (∃ i' j, i' < i ∧ j < S.rn i' ∧ S.rat i' j = a) → u a = true) ∧ ∀ (a j : Nat), j < k → S.rat i j = a → u a = true))
              case atStart => exact ⟨0, by omega, rfl, Lib.hid ⟨HE.out.1, HE.out.2.1, HE.out.2.2.1, u, HE.out.2.2.2, HD.out.2.2.2.2.2, fun _ _ h => absurd h (by omega)⟩⟩
              case round =>
                obtain ⟨k, hk, rfl, HS⟩ := hrel
                by_cases hkl : k < S.rn i
                · obtain ⟨hx0, hx1⟩ := H.out.2.2.2.rr i k hlt hkl
                  have ck : wr.cell? ⟨bi, oi + k, none⟩ = some (.int .i64 (S.rat i k)) := (HS.out.1.cell HI.out.1).trans (HI.out.2 k hkl)
                  obtain ⟨m, hm⟩ := Int.eq_ofNat_of_zero_le hx0
                  rw [hm] at ck
                  obtain ⟨u', hu, hcov, hcov2⟩ := HS.out.2.2.2
                  have f0 := hu.free m
                  have hmna : m < S.na := by omega
                  have k0 := hu.cell hmna
                  have m1 : (m : Int) < (S.na : Int) := by omega
                  have HT := Lib.hid (And.intro (HS.out.1.setCell (p := ⟨g, m, none⟩) (Nat.le_of_lt hgB) (.bool true)) (And.intro (HS.out.2.1.low ((Below.refl g wr).setCell (p := ⟨g, m, none⟩) (Nat.le_refl _) (.bool true)) hgB) (And.intro ((Below.heap_setCell _ _ _ _ (by have := HD.out.2.2.2.2.1; show wo.heap.size ≠ g; omega)).trans HS.out.2.2.1 : (wr.setCell ⟨g, m, none⟩ (.bool true)).heap[wo.heap.size]? = _) (hu.set hmna (.bool true)))))
                  have HM := Lib.hid (And.intro hm (And.intro hcov hcov2))
                  clear hu hcov hcov2 hx0 hx1 hm
                  go_wp2
                  go_roundg (S.rn i - (k + 1))
                  case measure => omega
                  case rel => exact ⟨k + 1, by omega, by go_num, Lib.hid ⟨HT.out.1, HT.out.2.1, HT.out.2.2.1, fun j => if j = m then true else u' j, HT.out.2.2.2.congr fun j _ => by by_cases e : j = m <;> simp [e], fun a ha h => by
                    show (if a = m then true else u' a) = true
                    by_cases e : a = m
                    · rw [if_pos e]
                    · rw [if_neg e]; exact HM.out.2.1 a ha h, fun a j hj h => by
                    show (if a = m then true else u' a) = true
                    by_cases e : a = m
                    · rw [if_pos e]
                    · rw [if_neg e]
                      by_cases e2 : j = k
                      · exfalso; rw [e2, HM.out.1] at h; exact e (Int.ofNat.inj h).symm
                      · exact HM.out.2.2 a j (by omega) h⟩⟩
                · have ein : k = S.rn i := by omega
                  have hrn := H.out.2.2.2.rn i hlt
                  have HS' := Lib.hid ein
                  obtain ⟨wz, hwz⟩ : ∃ x, x = wr := ⟨_, rfl⟩
                  subst hwz
                  have d1 : wz.cell? ⟨wo.heap.size, 1, none⟩ = some (.slice (some ⟨bi, oi, none⟩) (S.rn i) ci) := cell_in HS.out.2.2.1 rfl
                  rw [ein]
                  clear hkl hk ein
                  go_wp2_with fail
                  clear d1
                  go_loopg [12] (S.rn i - 1) (fun gg s12 wr => ∃ p : Nat, p + 1 + gg = S.rn i ∧ s12 = .int .i64 ((p : Int) + 1) ∧ Hid (Below wz.heap.size wz wr))
                  case atStart => exact ⟨0, by omega, rfl, Lib.hid (Below.refl _ _)⟩
                  case round =>
                    obtain ⟨p, hp, rfl, HP⟩ := hrel
                    have hbk := (HP.out.block _ (lt_of_block HS.out.2.2.1)).trans HS.out.2.2.1
                    have d1 : wr.cell? ⟨wo.heap.size, 1, none⟩ = some (.slice (some ⟨bi, oi, none⟩) (S.rn i) ci) := cell_in hbk rfl
                    by_cases hpl : p + 1 < S.rn i
                    · have hw0 : Below w.heap.size w wr := Below.step HS.out.1 HP.out
                      have c1 : wr.cell? ⟨bi, oi + (p + 1), none⟩ = some (.int .i64 (S.rat i (p + 1))) := (hw0.cell HI.out.1).trans (HI.out.2 (p + 1) hpl)
                      have c0 : wr.cell? ⟨bi, oi + p, none⟩ = some (.int .i64 (S.rat i p)) := (hw0.cell HI.out.1).trans (HI.out.2 p (by omega))
                      have hlt2 := H.out.2.2.2.ra i p hlt hpl
                      obtain ⟨x, hx⟩ : ∃ x, x = S.rat i (p + 1) := ⟨_, rfl⟩
                      obtain ⟨y, hy⟩ : ∃ y, y = S.rat i p := ⟨_, rfl⟩
                      rw [← hx] at c1 hlt2
                      rw [← hy] at c0 hlt2
                      have hxy : ¬ x ≤ y := by omega
                      have j1 : (p : Int) + 1 < (S.rn i : Int) := by omega
                      clear hbk hw0 hx hy hlt2
                      go_wp2_with fail
                      go_quiet (fail)
                      go_wp2
                      go_roundg (S.rn i - (p + 2))
                      case measure => omega
                      case rel => exact ⟨p + 1, by omega, by go_num, Lib.hid (HP.out.trans (((Drawn.refl wr).drewN nq).below _))⟩
                    · have ein : (p : Int) + 1 = (S.rn i : Int) := by omega
                      obtain ⟨u', hu, hcov, hcov2⟩ := HS.out.2.2.2
                      have HF := Lib.hid (And.intro (Below.step HS.out.1 HP.out) (And.intro (HS.out.2.1.below HP.out) (And.intro (hu.below HP.out hu.lt) (And.intro hcov hcov2))))
                      clear hu hcov hcov2 hbk hp hpl
                      rw [ein]
                      clear ein
                      go_wp2
                      go_roundg (S.nr - (i + 1))
                      case measure => omega
                      case rel => exact ⟨i + 1, by omega, by go_num, Lib.hid ⟨HF.out.1, HF.out.2.1, hgB, u', HF.out.2.2.1, fun a ha h => by
                        obtain ⟨i', j, h1, h2, h3⟩ := h
                        by_cases e : i' = i
                        · subst e; exact HF.out.2.2.2.2 a j (by rw [HS'.out]; exact h2) h3
                        · exact HF.out.2.2.2.1 a ha ⟨i', j, by omega, h2, h3⟩⟩⟩
        · have ein : i = S.nr := by omega
          obtain ⟨u, hu, hcov⟩ := HR.out.2.2.2
          have HU := Lib.hid (And.intro hu hcov)
          rw [ein]
          have HN := Lib.hid ein
          have HA := Lib.hid (show ∀ a : Nat, a < S.na → u a = true from fun a ha => hcov a ha (by
            obtain ⟨i', j, h1, h2, h3⟩ := H.out.2.2.2.ru a ha
            exact ⟨i', j, by omega, h2, h3⟩))
          clear hlt hi ein hu hcov
          go_wp2_with fail
          go_loop [158] (fun s158 => ∃ k : Nat, k ≤ S.na ∧ s158 = .int .i64 (k : Int)) (fun s158 => S.na - (intOf s158).toNat)
          case atStart => exact ⟨0, by omega, rfl⟩
          case round =>
            obtain ⟨k, hk, rfl⟩ := hrel
            by_cases hkl : k < S.na
            · have k0 := HU.out.1.cell hkl
              simp only [HA.out k hkl] at k0
              have k1 : (k : Int) < (S.na : Int) := by omega
              go_wp2
              go_round
              case rel => exact ⟨k + 1, by omega, by go_num⟩
              case measure => simp [intOf]; omega
            · have ein : k = S.na := by omega
              have q0 := HR.out.2.1.c0
              have q2 := HR.out.2.1.c2
              have q3 := HR.out.2.1.c3
              rw [ein]
              clear hkl hk ein
              obtain ⟨a6, a7, a8, a9⟩ := hA.out
              go_wp2_with fail
              go_loop [168] (fun s168 => s168 = .int .i64 0) (fun _ => 0)
              case atStart => rfl
              case round =>
                subst hrel
                go_wp2
                go_ret
                exact ⟨rfl, HR.out.1⟩
end Go.Proofs.Ytiakgcaflnpmeaa
