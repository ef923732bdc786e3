/- The law IntegerLong. -/
import Derived.Test.YthibdbpgllhcpaaGreatDoorTot
import Derived.Test.YthibdbpgllhcpaaGreatDoorLawText
namespace Go.Proofs.YthibdbpgllhcpaaGreatDoor
open Go Go.RowKit

theorem four_at (a b c d e f g h : ByteArray) {i : Nat} (hi : i < 4) : ∃ s t, ∀ w, (Instr.index 44 (.agg #[.string a, .string b, .string c, .string d, .string e, .string f, .string g, .string h]) (.int .i64 (i : Int))).run Tryz.prog w = .ok (.agg #[.string s, .string t]) w := by
  match i, hi with
  | 0, _ => exact ⟨a, b, fun w => by kernel_rfl⟩
  | 1, _ => exact ⟨c, d, fun w => by kernel_rfl⟩
  | 2, _ => exact ⟨e, f, fun w => by kernel_rfl⟩
  | 3, _ => exact ⟨g, h, fun w => by kernel_rfl⟩

theorem two_cells {w w' : World} {x y : Value} {T : TypeId} (hb : Below (w.alloc (.cells #[x, y] T)).heap.size (w.alloc (.cells #[x, y] T)) w') :
    w'.cell? ⟨w.heap.size, 0, none⟩ = some x ∧ w'.cell? ⟨w.heap.size, 1, none⟩ = some y := by
  have hlt : w.heap.size < (w.alloc (.cells #[x, y] T)).heap.size := by simp
  constructor
  · rw [hb.cell (p := ⟨w.heap.size, 0, none⟩) hlt]; exact cell_at (heap_alloc_new w _) rfl
  · rw [hb.cell (p := ⟨w.heap.size, 1, none⟩) hlt]; exact cell_at (heap_alloc_new w _) rfl

set_option maxHeartbeats 3200000 in
set_option maxRecDepth 100000 in
theorem law_long {w : World} {A : Option Addr} {n c : Nat} {m : Nat} (hm : m < 256) (ht : Tab w) (h : Nums w A n) (hc : n ≤ c) (hcm : c ≤ maxLen) :
    Calls Tryz.prog 6 #[.slice A n c, .int .u8 (m : Int)] w fun e w' => e = .returned (.bool true) ∧ Below w.heap.size w w' := by
  have H := Lib.hid (And.intro ht h)
  clear ht h
  go_enter Tryz.func6, Tryz.ntmps6
  go_wp2_with fail
  refine (Run.new H.out.1 H.out.2 hc hcm).mono ?_
  rintro e w0 ⟨g, rfl, H0⟩
  go_wp2_with fail
  refine (H0.out.draw 60 (by omega) (by omega)).mono ?_
  rintro e w1 ⟨sa, a, rfl, HA⟩
  go_wp2_with fail
  refine (HA.out.2.draw 40 (by omega) (by omega)).mono ?_
  rintro e w2 ⟨sb, b, rfl, HB⟩
  have HR := Lib.hid HB.out.2
  clear HA HB H0
  go_wp2_with fail
  go_loopw [6, 8] (fun sv iv wr => ∃ (i : Nat) (s : ByteArray), i ≤ 3 ∧ sv = .string s ∧ iv = .int .i64 (i : Int) ∧ Run w g wr) (fun _ iv _ => 3 - (intOf iv).toNat)
  case atStart => exact ⟨0, _, by omega, rfl, rfl, HR.out⟩
  case round =>
    obtain ⟨i, s, hi, rfl, rfl, hr⟩ := hrel
    clear HR
    have HW := Lib.hid hr
    clear hr
    by_cases hi3 : i < 3
    · obtain ⟨r, k, _, hB⟩ := mul_tot s s
      have HM := Lib.hid hB
      clear hB
      by_cases hk : k = 0
      all_goals
        first | subst hk | have hkb : (k == 0) = false := by rw [beq_eq_false_iff_ne]; exact hk
        go_wp2_with fail
        refine (HM.out _).mono ?_
        rintro e w3 ⟨rfl, hb3⟩
        have H3 := Lib.hid (HW.out.op hb3)
        clear hb3
        go_wp2
        go_roundw
        case rel => exact ⟨i + 1, _, by omega, rfl, by go_num, H3.out⟩
        case measure => simp [intOf]; omega
    · obtain rfl : i = 3 := by omega
      rw [show ((3 : Nat) : Int) = 3 from rfl]
      go_wp2_with fail
      go_loopw [11] (fun lv wr => ∃ l : ByteArray, l.size ≤ 402 ∧ lv = .string l ∧ Run w g wr) (fun lv _ => 403 - strLen lv)
      case atStart => exact ⟨⟨#[]⟩, by decide, rfl, HW.out⟩
      case round =>
        obtain ⟨l, hl, rfl, hr⟩ := hrel
        clear HW
        have HL := Lib.hid hr
        clear hr
        have hm6 : m % 6 < 6 := Nat.mod_lt _ (by omega)
        by_cases hlt : l.size < 397 + m % 6
        · go_wp2
          go_roundw
          case rel => exact ⟨_, by rw [ByteArray.size_append]; show l.size + 1 ≤ 402; omega, rfl, HL.out⟩
          case measure =>
            show 403 - strLen (.string _) < 403 - strLen (.string _)
            simp only [strLen, ByteArray.size_append]
            show 403 - (l.size + 1) < 403 - l.size
            omega
        · go_wp2_with fail
          clear hlt hm6
          go_loopw [69] (fun iv wr => ∃ i : Nat, i ≤ 4 ∧ iv = .int .i64 (i : Int) ∧ Run w g wr) (fun iv _ => 4 - (intOf iv).toNat)
          case atStart => exact ⟨0, by omega, rfl, HL.out⟩
          case round =>
            obtain ⟨i, hi, rfl, hr⟩ := hrel
            clear HL
            have HW := Lib.hid hr
            clear hr
            by_cases hi4 : i < 4
            · obtain ⟨x, y, hix⟩ := four_at s sb s l l ⟨#[49]⟩ (⟨#[45]⟩ ++ l) sb hi4
              obtain ⟨mr, mk, hM1, hM2⟩ := mul_tot x y
              obtain ⟨dq, dr, dk, hD1, hD2⟩ := div_tot x y
              obtain ⟨ar, ak, hA1, hA2⟩ := add_tot x y
              have HT := Lib.hid (And.intro hM1 (And.intro hM2 (And.intro hD1 (And.intro hD2 (And.intro hA1 hA2)))))
              clear hM1 hM2 hD1 hD2 hA1 hA2
              have HW1 := Lib.hid (HW.out.op ((Below.refl _ _).alloc (Nat.le_refl _) (.cells #[.string x, .string y] 43)))
              go_wp2_with fail
              refine (HT.out.1 _ (HW1.out.tab)).mono ?_
              rintro e w3 ⟨rfl, hb3⟩
              have HB3 := Lib.hid hb3
              clear hb3
              obtain ⟨k3, q3⟩ := two_cells HB3.out
              go_wp2_with fail
              refine (HT.out.2.1 _).mono ?_
              rintro e w4 ⟨rfl, hb4⟩
              have HB4 := Lib.hid (HB3.out.trans (hb4.mono HB3.out.size))
              clear hb4
              clear k3 q3
              obtain ⟨k4, q4⟩ := two_cells HB4.out
              go_wp2_with fail
              refine (HT.out.2.2.1 _ (HW1.out.op HB4.out).tab).mono ?_
              rintro e w5 ⟨rfl, hb5⟩
              have HB5 := Lib.hid (HB4.out.trans (hb5.mono HB4.out.size))
              clear hb5
              clear k4 q4
              obtain ⟨k5, q5⟩ := two_cells HB5.out
              go_wp2_with fail
              refine (HT.out.2.2.2.1 _).mono ?_
              rintro e w6 ⟨rfl, hb6⟩
              have HB6 := Lib.hid (HB5.out.trans (hb6.mono HB5.out.size))
              clear hb6
              clear k5 q5
              obtain ⟨k6, q6⟩ := two_cells HB6.out
              go_wp2_with fail
              refine (HT.out.2.2.2.2.1 _ (HW1.out.op HB6.out).tab).mono ?_
              rintro e w7 ⟨rfl, hb7⟩
              have HB7 := Lib.hid (HB6.out.trans (hb7.mono HB6.out.size))
              clear hb7
              clear k6 q6
              obtain ⟨k7, q7⟩ := two_cells HB7.out
              go_wp2_with fail
              refine (HT.out.2.2.2.2.2 _).mono ?_
              rintro e w8 ⟨rfl, hb8⟩
              have HB8 := Lib.hid (HB7.out.trans (hb8.mono HB7.out.size))
              clear hb8
              clear k7 q7
              have HX := Lib.hid (HW1.out.op HB8.out)
              go_wp2
              go_roundw
              case rel => exact ⟨i + 1, by omega, by go_num, HX.out⟩
              case measure => simp [intOf]; omega
            · obtain rfl : i = 4 := by omega
              rw [show ((4 : Nat) : Int) = 4 from rfl]
              go_wp2_with fail
              refine (HW.out.sane H.out.1).mono ?_
              rintro e w14 ⟨rfl, hb⟩
              go_wp2
              go_ret
              exact ⟨rfl, hb⟩
end Go.Proofs.YthibdbpgllhcpaaGreatDoor
