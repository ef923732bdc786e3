/- The law IntegerExact. -/
import Derived.Test.YthibdbpgllhcpaaGreatDoorSmallI
import Derived.Test.YthibdbpgllhcpaaGreatDoorOdd
import Derived.Test.YthibdbpgllhcpaaGreatDoorLawText
namespace Go.Proofs.YthibdbpgllhcpaaGreatDoor
open Go Go.RowKit

/-- The run, and the six texts in block b. -/
def Six (w : World) (g b : Nat) (cs : Array Value) (wr : World) : Prop := Run w g wr ∧ wr.heap[b]? = some (.cells cs 25 (0, 0))
theorem Six.op {w w1 w2 : World} {g b : Nat} {cs : Array Value} (h : Six w g b cs w1) (hb : Below w1.heap.size w1 w2) : Six w g b cs w2 :=
  ⟨h.1.op hb, (hb.block _ (lt_of_block h.2)).trans h.2⟩
theorem Six.drew {w w1 : World} {g b : Nat} {cs : Array Value} (h : Six w g b cs w1) : Six w g b cs w1.drew := ⟨⟨h.1.1, h.1.2.1, h.1.2.2.1.drew, h.1.2.2.2⟩, h.2⟩
theorem ErrAt.below_to {w w1 : World} {g : Nat} (h : ErrAt w) (hr : Run w g w1) : ErrAt w1 := h.below hr.2.2.1
theorem six_at {a b c d e f : ByteArray} {i : Nat} (hi : i < 6) : ∃ s, (#[Value.string a, .string b, .string c, .string d, .string e, .string f] : Array Value)[i]? = some (.string s) := by
  match i, hi with
  | 0, _ | 1, _ | 2, _ | 3, _ | 4, _ | 5, _ => exact ⟨_, rfl⟩

set_option maxHeartbeats 6400000 in
set_option maxRecDepth 100000 in
theorem law_exact {w : World} {A : Option Addr} {n c : Nat} {sa sb : ByteArray} {m : Int} (ht : Tab w) (he : ErrAt w) (h : Nums w A n) (hc : n ≤ c) (hcm : c ≤ maxLen) (h0 : -9223372036854775808 ≤ m) (h1 : m ≤ 9223372036854775807) :
    Calls Tryz.prog 5 #[.slice A n c, .string sa, .string sb, .int .i64 m] w fun e w' => e = .returned (.bool true) ∧ Below w.heap.size w w' := by
  obtain ⟨x5, hM1, hM2⟩ := make_tot m h0 h1
  have H := Lib.hid (And.intro ht (And.intro h (And.intro he (And.intro hM1 hM2))))
  clear ht h he hM1 hM2
  by_cases hbad : 400 < n ∨ 500 < sa.size ∨ 500 < sb.size
  · have hb1 : (decide ((400 : Int) < n) || decide ((500 : Int) < sa.size) || decide ((500 : Int) < sb.size)) = true := by
      simp only [Bool.or_eq_true, decide_eq_true_eq]; omega
    by_cases g1 : 400 < n
    · go_enter Tryz.func5, Tryz.ntmps5
      go_wp2_with fail
      refine (sane_any H.out.1).mono ?_
      rintro e w1 ⟨rfl, hb⟩
      go_wp2
      go_ret
      exact ⟨rfl, hb⟩
    · by_cases g2 : 500 < sa.size
      · go_enter Tryz.func5, Tryz.ntmps5
        go_wp2_with fail
        refine (sane_any H.out.1).mono ?_
        rintro e w1 ⟨rfl, hb⟩
        go_wp2
        go_ret
        exact ⟨rfl, hb⟩
      · have g3 : 500 < sb.size := by omega
        go_enter Tryz.func5, Tryz.ntmps5
        go_wp2_with fail
        refine (sane_any H.out.1).mono ?_
        rintro e w1 ⟨rfl, hb⟩
        go_wp2
        go_ret
        exact ⟨rfl, hb⟩
  · have g1 : ¬ 400 < n := by omega
    have g2 : ¬ 500 < sa.size := by omega
    have g3 : ¬ 500 < sb.size := by omega
    clear hbad
    go_enter Tryz.func5, Tryz.ntmps5
    go_wp2_with fail
    refine (Run.new H.out.1 H.out.2.1 hc hcm).mono ?_
    rintro e w0 ⟨g, rfl, H0⟩
    clear g1 g2 g3
    go_wp2_with fail
    refine (H0.out.draw 30 (by omega) (by omega)).mono ?_
    rintro e w1 ⟨x2, z2, rfl, HA⟩
    go_wp2_with fail
    refine (HA.out.2.draw 12 (by omega) (by omega)).mono ?_
    rintro e w2 ⟨x3, z3, rfl, HB⟩
    go_wp2_with fail
    refine (HB.out.2.odd).mono ?_
    rintro e w3 ⟨x4, rfl, HC⟩
    go_wp2_with fail
    refine (H.out.2.2.2.1 _ HC.out.tab).mono ?_
    rintro e w4 ⟨rfl, hb4⟩
    have H4 := Lib.hid (HC.out.op hb4)
    clear hb4 HA HB HC H0
    go_wp2_with fail
    obtain ⟨b, hbe⟩ : ∃ b, b = w4.heap.size := ⟨_, rfl⟩
    have HS := Lib.hid (show Six w g w4.heap.size #[.string sa, .string sb, .string x2, .string x3, .string x4, .string x5] ((w4.alloc (.cells #[.string sa, .string sb, .string x2, .string x3, .string x4, .string x5] 25))) from ⟨H4.out.op ((Below.refl _ _).alloc (Nat.le_refl _) _), heap_alloc_new w4 _⟩)
    rw [← hbe] at HS ⊢
    generalize w4.alloc (.cells #[.string sa, .string sb, .string x2, .string x3, .string x4, .string x5] 25) = W at *
    clear hbe H4
    have c5 : W.cell? ⟨b, 5, none⟩ = some (.string x5) := cell_at HS.out.2 rfl
    have e5 : W.drew.cell? ⟨b, 5, none⟩ = some (.string x5) := c5
    go_region_held3 (fun w' => w'.cell? ⟨b, 5, none⟩ = some (.string x5))
      (first | exact c7 | exact e5 | exact c5)
      (first
        | (go_at_call 19; go_split_ands; ((with_reducible refine (H.out.2.2.2.2 _).mono ?_); rintro e w7 ⟨rfl, hb7⟩; have HS7 := Lib.hid (HS.out.drew.op hb7); have c7 : w7.cell? ⟨b, 5, none⟩ = some (.string x5) := cell_at HS7.out.2 rfl)))
    clear c5 e5 c7 hb7
    go_wp2_with fail
    go_loopw [60] (fun iv wr => ∃ i : Nat, i ≤ 6 ∧ iv = .int .i64 (i : Int) ∧ Six w g b #[.string sa, .string sb, .string x2, .string x3, .string x4, .string x5] wr) (fun iv _ => 6 - (intOf iv).toNat)
    case atStart => exact ⟨0, by omega, rfl, HS7.out⟩
    case round =>
      obtain ⟨i, hi, rfl, hr⟩ := hrel
      clear HS HS7
      have HW := Lib.hid hr
      clear hr
      by_cases hi6 : i < 6
      · obtain ⟨x, hx⟩ := six_at (a := sa) (b := sb) (c := x2) (d := x3) (e := x4) (f := x5) hi6
        have hcx := cell_at HW.out.2 hx
        clear hx
        obtain ⟨vb, hV1, hV2⟩ := valid_tot x
        obtain ⟨sc, hS1, hS2⟩ := sign_tot x
        obtain ⟨k, ok, hK1, hK2⟩ := small_tot x
        have HT := Lib.hid (And.intro hK1 (And.intro hK2 (And.intro hV1 (And.intro hV2 (And.intro hS1 hS2)))))
        clear hV1 hV2 hS1 hS2 hK1 hK2
        go_wp2_with fail
        refine (HT.out.1 _ (H.out.2.2.1.below_to HW.out.1)).mono ?_
        rintro e v1 ⟨rfl, hb⟩
        have HW1 := Lib.hid (HW.out.op hb)
        clear hb HW hcx
        go_wp2_with fail
        refine (HT.out.2.1 _).mono ?_
        rintro e v2 ⟨rfl, hb⟩
        have HW2 := Lib.hid (HW1.out.op hb)
        clear hb HW1
        go_wp2_with fail
        refine (HT.out.2.2.1 _).mono ?_
        rintro e v3 ⟨rfl, rfl⟩
        go_wp2_with fail
        refine (HT.out.2.2.2.1 _).mono ?_
        rintro e v3 ⟨rfl, rfl⟩
        go_wp2_with fail
        refine (HT.out.2.2.2.2.1 _).mono ?_
        rintro e v3 ⟨rfl, rfl⟩
        go_wp2_with fail
        refine (HT.out.2.2.2.2.2 _).mono ?_
        rintro e v3 ⟨rfl, rfl⟩
        clear HT
        go_wp2_with fail
        go_loopw [99] (fun jv wr => ∃ j : Nat, j ≤ 5 ∧ jv = .int .i64 (j : Int) ∧ Six w g b #[.string sa, .string sb, .string x2, .string x3, .string x4, .string x5] wr) (fun jv _ => 5 - (intOf jv).toNat)
        case atStart => exact ⟨0, by omega, rfl, HW2.out⟩
        case round =>
          obtain ⟨j, hj, rfl, hr⟩ := hrel
          clear HW2
          have HW := Lib.hid hr
          clear hr
          by_cases hj5 : j < 5
          · obtain ⟨y, hy⟩ := six_at (a := sa) (b := sb) (c := x2) (d := x3) (e := x4) (f := x5) (show 1 + j < 6 by omega)
            have hcy := cell_at HW.out.2 hy
            clear hy
            obtain ⟨cc, hC1, hC2⟩ := compare_tot x y
            obtain ⟨ar, ak, hA1, hA2⟩ := add_tot x y
            obtain ⟨br, bk, hB1, hB2⟩ := sub_tot x y
            obtain ⟨mr, mk, hM1, hM2⟩ := mul_tot x y
            obtain ⟨dq, dr, dk, hD1, hD2⟩ := div_tot x y
            obtain ⟨gr, gk, hG1, hG2⟩ := gcd_tot x y
            have HT := Lib.hid (And.intro hC1 (And.intro hC2 (And.intro hA1 (And.intro hA2 (And.intro hB1 (And.intro hB2 (And.intro hM1 (And.intro hM2 (And.intro hD1 (And.intro hD2 (And.intro hG1 hG2)))))))))))
            clear hC1 hC2 hA1 hA2 hB1 hB2 hM1 hM2 hD1 hD2 hG1 hG2
            go_wp2_with fail
            refine (HT.out.1 _).mono ?_
            rintro e v3 ⟨rfl, hb⟩
            have HW3 := Lib.hid (HW.out.op hb)
            clear hb HW hcy
            go_wp2_with fail
            refine (HT.out.2.1 _).mono ?_
            rintro e v4 ⟨rfl, hb⟩
            have HW4 := Lib.hid (HW3.out.op hb)
            clear hb HW3
            go_wp2_with fail
            refine (HT.out.2.2.1 _ HW4.out.1.tab).mono ?_
            rintro e v5 ⟨rfl, hb⟩
            have HW5 := Lib.hid (HW4.out.op hb)
            clear hb HW4
            go_wp2_with fail
            refine (HT.out.2.2.2.1 _).mono ?_
            rintro e v6 ⟨rfl, hb⟩
            have HW6 := Lib.hid (HW5.out.op hb)
            clear hb HW5
            go_wp2_with fail
            refine (HT.out.2.2.2.2.1 _ HW6.out.1.tab).mono ?_
            rintro e v7 ⟨rfl, hb⟩
            have HW7 := Lib.hid (HW6.out.op hb)
            clear hb HW6
            go_wp2_with fail
            refine (HT.out.2.2.2.2.2.1 _).mono ?_
            rintro e v8 ⟨rfl, hb⟩
            have HW8 := Lib.hid (HW7.out.op hb)
            clear hb HW7
            go_wp2_with fail
            refine (HT.out.2.2.2.2.2.2.1 _ HW8.out.1.tab).mono ?_
            rintro e v9 ⟨rfl, hb⟩
            have HW9 := Lib.hid (HW8.out.op hb)
            clear hb HW8
            go_wp2_with fail
            refine (HT.out.2.2.2.2.2.2.2.1 _).mono ?_
            rintro e v10 ⟨rfl, hb⟩
            have HW10 := Lib.hid (HW9.out.op hb)
            clear hb HW9
            go_wp2_with fail
            refine (HT.out.2.2.2.2.2.2.2.2.1 _ HW10.out.1.tab).mono ?_
            rintro e v11 ⟨rfl, hb⟩
            have HW11 := Lib.hid (HW10.out.op hb)
            clear hb HW10
            go_wp2_with fail
            refine (HT.out.2.2.2.2.2.2.2.2.2.1 _).mono ?_
            rintro e v12 ⟨rfl, hb⟩
            have HW12 := Lib.hid (HW11.out.op hb)
            clear hb HW11
            go_wp2_with fail
            refine (HT.out.2.2.2.2.2.2.2.2.2.2.1 _ HW12.out.1.tab).mono ?_
            rintro e v13 ⟨rfl, hb⟩
            have HW13 := Lib.hid (HW12.out.op hb)
            clear hb HW12
            go_wp2_with fail
            refine (HT.out.2.2.2.2.2.2.2.2.2.2.2 _).mono ?_
            rintro e v14 ⟨rfl, hb⟩
            have HW14 := Lib.hid (HW13.out.op hb)
            clear hb HW13
            clear HT
            go_wp2
            go_roundw
            case rel => exact ⟨j + 1, by omega, by go_num, HW14.out⟩
            case measure => simp [intOf]; omega
          · obtain rfl : j = 5 := by omega
            rw [show ((5 : Nat) : Int) = 5 from rfl]
            go_wp2
            go_roundw
            case rel => exact ⟨i + 1, by omega, by go_num, HW.out⟩
            case measure => simp [intOf]; omega
      · obtain rfl : i = 6 := by omega
        rw [show ((6 : Nat) : Int) = 6 from rfl]
        go_wp2_with fail
        refine (HW.out.1.sane H.out.1).mono ?_
        rintro e v9 ⟨rfl, hb⟩
        go_wp2
        go_ret
        exact ⟨rfl, hb⟩
end Go.Proofs.YthibdbpgllhcpaaGreatDoor
