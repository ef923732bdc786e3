/- The law RationalExact. -/
import Derived.Test.YtfogkkanifnppaaGreatDoorQTot
import Derived.Deep.RegionHeld3
namespace Go.Proofs.YtfogkkanifnppaaGreatDoor
open Go Go.RowKit

/-- The run, and the six texts in block b. -/
def QSix (w : World) (g b : Nat) (cs : Array Value) (wr : World) : Prop := QRun w g wr ∧ wr.heap[b]? = some (.cells cs 25 (0, 0)) ∧ b ≠ g
theorem QSix.op {w w1 w2 : World} {g b : Nat} {cs : Array Value} (h : QSix w g b cs w1) (hb : Below w1.heap.size w1 w2) : QSix w g b cs w2 :=
  ⟨h.1.op hb, (hb.block _ (lt_of_block h.2.1)).trans h.2.1, h.2.2⟩
theorem QSix.drew {w w1 : World} {g b : Nat} {cs : Array Value} (h : QSix w g b cs w1) : QSix w g b cs w1.drew :=
  h.op ((Drawn.refl w1).drewN 1 |>.below _)
theorem QSix.src {w w1 w2 : World} {g b : Nat} {cs : Array Value} (h : QSix w g b cs w1) (hs : SrcIn w2 g) (hb : Src1 g w1 w2) : QSix w g b cs w2 :=
  ⟨⟨h.1.1.big hs hb.1, h.1.2⟩, (hb.2 _ (lt_of_block h.2.1) h.2.2).trans h.2.1, h.2.2⟩
theorem QSix.env {w w1 : World} {g b : Nat} {cs : Array Value} (h : QSix w g b cs w1) : Env w1 := h.1.env
theorem QRun.big {w w1 w2 : World} {g : Nat} (h : QRun w g w1) (hs : SrcIn w2 g) (hb : Src1 g w1 w2) : QRun w g w2 := ⟨h.1.big hs hb.1, h.2⟩
theorem qsix_at {a b c d e f : ByteArray} (h : Short a ∧ Short b ∧ Short c ∧ Short d ∧ Short e ∧ Short f) {i : Nat} (hi : i < 6) : ∃ s, (#[Value.string a, .string b, .string c, .string d, .string e, .string f] : Array Value)[i]? = some (.string s) ∧ Short s := by
  match i, hi with
  | 0, _ => exact ⟨_, rfl, h.1⟩
  | 1, _ => exact ⟨_, rfl, h.2.1⟩
  | 2, _ => exact ⟨_, rfl, h.2.2.1⟩
  | 3, _ => exact ⟨_, rfl, h.2.2.2.1⟩
  | 4, _ => exact ⟨_, rfl, h.2.2.2.2.1⟩
  | 5, _ => exact ⟨_, rfl, h.2.2.2.2.2⟩
theorem QRun.small {w w1 : World} {g : Nat} (h : QRun w g w1) :
    Calls Tryz.prog 25 #[.pointer (some ⟨g, 0, none⟩)] w1 fun e w' => ∃ t, e = .returned (.string t) ∧ Hid (Short t ∧ QRun w g w') :=
  (rat_src h.1.2.1).mono fun _ _ ⟨t, _, he, h1, _, h3, h4⟩ => ⟨t, he, Lib.hid ⟨ratIs_size h1, h.big h3 h4⟩⟩
theorem QRun.oddr {w w1 : World} {g : Nat} (h : QRun w g w1) :
    Calls Tryz.prog 26 #[.pointer (some ⟨g, 0, none⟩)] w1 fun e w' => ∃ t, e = .returned (.string t) ∧ Hid (Short t ∧ QRun w g w') :=
  (oddrat_src h.1.2.1).mono fun _ _ ⟨t, he, h1, h3, h4⟩ => ⟨t, he, Lib.hid ⟨h1, h.big h3 h4⟩⟩
theorem QSix.drawn {w w1 : World} {g b : Nat} {cs : Array Value} (h : QSix w g b cs w1) (d : Nat) (hd : d ≤ 100) :
    Calls Tryz.prog 28 #[.pointer (some ⟨g, 0, none⟩), .int .i64 (d : Int)] w1 fun e w' => ∃ t, e = .returned (.string t) ∧ Hid (QSix w g b cs w') :=
  (big_src d h.1.1.2.1 hd).mono fun _ _ ⟨t, _, he, _, _, h3, h4⟩ => ⟨t, he, Lib.hid (h.src h3 h4)⟩
theorem QSix.oddi {w w1 : World} {g b : Nat} {cs : Array Value} (h : QSix w g b cs w1) :
    Calls Tryz.prog 29 #[.pointer (some ⟨g, 0, none⟩)] w1 fun e w' => ∃ t, e = .returned (.string t) ∧ Hid (QSix w g b cs w') :=
  (oddint_src h.1.1.2.1).mono fun _ _ ⟨t, he, _, h3, h4⟩ => ⟨t, he, Lib.hid (h.src h3 h4)⟩
set_option maxHeartbeats 6400000 in
set_option maxRecDepth 100000 in
theorem law_qexact {w : World} {A : Option Addr} {n c : Nat} {sa sb sm sk : ByteArray} {m : Int} (ht : Tab w) (hl : Lx w) (h : Nums w A n) (hc : n ≤ c) (hcm : c ≤ maxLen) (h0 : -9223372036854775808 ≤ m) (h1 : m ≤ 9223372036854775807) :
    Calls Tryz.prog 5 #[.slice A n c, .string sa, .string sb, .string sm, .string sk, .int .i64 m] w fun e w' => e = .returned (.bool true) ∧ Below w.heap.size w w' := by
  obtain ⟨x5, hsh5, hM1, hM2⟩ := qwhole_tot m h0 h1
  have H := Lib.hid (And.intro (show Env w from ⟨ht, hl⟩) (And.intro h (And.intro hsh5 (And.intro hM1 hM2))))
  clear ht hl h hM1 hM2 hsh5
  by_cases hbad : 400 < n ∨ 120 < sa.size ∨ 120 < sb.size ∨ 200 < sm.size ∨ 200 < sk.size
  · have hb1 : (decide ((400 : Int) < n) || decide ((120 : Int) < sa.size) || decide ((120 : Int) < sb.size) || decide ((200 : Int) < sm.size) || decide ((200 : Int) < sk.size)) = true := by
      simp only [Bool.or_eq_true, decide_eq_true_eq]; omega
    by_cases g0 : 400 < n
    · go_enter Tryz.func5, Tryz.ntmps5
      go_wp2_with fail
      refine (qsane_any H.out.1).mono ?_
      rintro e w1 ⟨rfl, hb⟩
      go_wp2
      go_ret
      exact ⟨rfl, hb⟩
    · by_cases g1 : 120 < sa.size
      · go_enter Tryz.func5, Tryz.ntmps5
        go_wp2_with fail
        refine (qsane_any H.out.1).mono ?_
        rintro e w1 ⟨rfl, hb⟩
        go_wp2
        go_ret
        exact ⟨rfl, hb⟩
      · by_cases g2 : 120 < sb.size
        · go_enter Tryz.func5, Tryz.ntmps5
          go_wp2_with fail
          refine (qsane_any H.out.1).mono ?_
          rintro e w1 ⟨rfl, hb⟩
          go_wp2
          go_ret
          exact ⟨rfl, hb⟩
        · by_cases g3 : 200 < sm.size
          · go_enter Tryz.func5, Tryz.ntmps5
            go_wp2_with fail
            refine (qsane_any H.out.1).mono ?_
            rintro e w1 ⟨rfl, hb⟩
            go_wp2
            go_ret
            exact ⟨rfl, hb⟩
          · have g4 : 200 < sk.size := by omega
            go_enter Tryz.func5, Tryz.ntmps5
            go_wp2_with fail
            refine (qsane_any H.out.1).mono ?_
            rintro e w1 ⟨rfl, hb⟩
            go_wp2
            go_ret
            exact ⟨rfl, hb⟩
  · have g0 : ¬ 400 < n := by omega
    have g1 : ¬ 120 < sa.size := by omega
    have g2 : ¬ 120 < sb.size := by omega
    have g3 : ¬ 200 < sm.size := by omega
    have g4 : ¬ 200 < sk.size := by omega
    have hsa : Short sa := short_of (by omega)
    have hsb : Short sb := short_of (by omega)
    have HAB := Lib.hid (And.intro hsa hsb)
    clear hbad hsa hsb
    go_enter Tryz.func5, Tryz.ntmps5
    go_wp2_with fail
    refine (QRun.new H.out.1.1 H.out.1.2 H.out.2.1 hc hcm).mono ?_
    rintro e w0 ⟨g, rfl, H0⟩
    clear g0 g1 g2 g3 g4
    go_wp2_with fail
    refine (H0.out.long 12 (by omega) (by omega)).mono ?_
    rintro e w1 ⟨x2, z2, rfl, HA⟩
    go_wp2_with fail
    refine (HA.out.2.small).mono ?_
    rintro e w2 ⟨x3, rfl, HB⟩
    go_wp2_with fail
    refine (HB.out.2.oddr).mono ?_
    rintro e w3 ⟨x4, rfl, HC⟩
    go_wp2_with fail
    refine (H.out.2.2.2.1 _ HC.out.2.env.1).mono ?_
    rintro e w4 ⟨rfl, hb4⟩
    have H4 := Lib.hid (HC.out.2.op hb4)
    have HSH := Lib.hid (show Short sa ∧ Short sb ∧ Short x2 ∧ Short x3 ∧ Short x4 ∧ Short x5 from ⟨HAB.out.1, HAB.out.2, HA.out.1.short, HB.out.1, HC.out.1, H.out.2.2.1⟩)
    clear hb4 HA HB HC H0 HAB
    go_wp2_with fail
    obtain ⟨b, hbe⟩ : ∃ b, b = w4.heap.size := ⟨_, rfl⟩
    have HS := Lib.hid (show QSix w g w4.heap.size #[.string sa, .string sb, .string x2, .string x3, .string x4, .string x5] (w4.alloc (.cells #[.string sa, .string sb, .string x2, .string x3, .string x4, .string x5] 25)) from ⟨H4.out.op ((Below.refl _ _).alloc (Nat.le_refl _) _), heap_alloc_new w4 _, by have := H4.out.1.2.1.lt; omega⟩)
    rw [← hbe] at HS ⊢
    generalize (w4.alloc (.cells #[.string sa, .string sb, .string x2, .string x3, .string x4, .string x5] 25)) = W at *
    clear hbe H4
    have c5 : W.cell? ⟨b, 5, none⟩ = some (.string x5) := cell_at HS.out.2.1 rfl
    have e5 : W.drew.cell? ⟨b, 5, none⟩ = some (.string x5) := c5
    go_region_held3 (fun w' => w'.cell? ⟨b, 5, none⟩ = some (.string x5))
      (first | exact c7 | exact e5 | exact c5)
      (first
        | (go_at_call 27; go_split_ands; ((with_reducible refine (H.out.2.2.2.2 _).mono ?_); rintro e w7 ⟨rfl, hb7⟩; have HS7 := Lib.hid (HS.out.drew.op hb7); have c7 : w7.cell? ⟨b, 5, none⟩ = some (.string x5) := cell_at HS7.out.2.1 rfl)))
    clear c5 e5 c7 hb7
    go_wp2_with fail
    refine (HS7.out.drawn 9 (by omega)).mono ?_
    rintro e w8 ⟨y1, rfl, HY1⟩
    go_wp2_with fail
    refine (HY1.out.drawn 9 (by omega)).mono ?_
    rintro e w9 ⟨y2, rfl, HY2⟩
    go_wp2_with fail
    refine (HY2.out.drawn 5 (by omega)).mono ?_
    rintro e w10 ⟨y3, rfl, HY3⟩
    go_wp2_with fail
    refine (HY3.out.oddi).mono ?_
    rintro e w11 ⟨y4, rfl, HY4⟩
    clear HS HS7 HY1 HY2 HY3
    go_wp2_with fail
    go_loopw [96] (fun iv wr => ∃ i : Nat, i ≤ 3 ∧ iv = .int .i64 (i : Int) ∧ QSix w g b #[.string sa, .string sb, .string x2, .string x3, .string x4, .string x5] wr) (fun iv _ => 3 - (intOf iv).toNat)
    case atStart => exact ⟨0, by omega, rfl, HY4.out⟩
    case round =>
      obtain ⟨i, hi, rfl, hr⟩ := hrel
      clear HY4
      have HW := Lib.hid hr
      clear hr
      by_cases hi3 : i < 3
      · have hi012 : i = 0 ∨ i = 1 ∨ i = 2 := by omega
        clear hi hi3
        rcases hi012 with rfl | rfl | rfl
        · rw [show ((0 : Nat) : Int) = 0 from rfl]
          obtain ⟨o, co, hM1, hM2⟩ := qmake_tot sm sk
          have HT := Lib.hid (And.intro hM1 hM2)
          clear hM1 hM2
          have i0 : ∀ w, (Instr.index 47 (.agg #[.string sm, .string sk, .string y1, .string y2, .string y3, .string y4]) (.int .i64 0)).run Tryz.prog w = .ok (.agg #[.string sm, .string sk]) w := fun _ => by kernel_rfl
          go_wp2_with fail
          refine (HT.out.1 _ (HW.out.op ((Below.refl _ _).alloc (Nat.le_refl _) _)).env).mono ?_
          rintro e v1 ⟨rfl, hb⟩
          have q0 := (hb.block _ (by simp)).trans (heap_alloc_new _ _)
          have q1 := cell_at q0 (j := 0) rfl
          have q2 := cell_at q0 (j := 1) rfl
          have HW1 := Lib.hid ((HW.out.op ((Below.refl _ _).alloc (Nat.le_refl _) _)).op hb)
          clear hb HW q0
          go_wp2_with fail
          refine (HT.out.2 _).mono ?_
          rintro e v2 ⟨rfl, hb⟩
          have HW2 := Lib.hid (HW1.out.op hb)
          clear hb HW1 HT q1 q2
          go_wp2
          go_roundw
          case rel => exact ⟨1, by omega, by go_num, HW2.out⟩
          case measure => simp [intOf]
        · rw [show ((1 : Nat) : Int) = 1 from rfl]
          obtain ⟨o, co, hM1, hM2⟩ := qmake_tot y1 y2
          have HT := Lib.hid (And.intro hM1 hM2)
          clear hM1 hM2
          have i0 : ∀ w, (Instr.index 47 (.agg #[.string sm, .string sk, .string y1, .string y2, .string y3, .string y4]) (.int .i64 1)).run Tryz.prog w = .ok (.agg #[.string y1, .string y2]) w := fun _ => by kernel_rfl
          go_wp2_with fail
          refine (HT.out.1 _ (HW.out.op ((Below.refl _ _).alloc (Nat.le_refl _) _)).env).mono ?_
          rintro e v1 ⟨rfl, hb⟩
          have q0 := (hb.block _ (by simp)).trans (heap_alloc_new _ _)
          have q1 := cell_at q0 (j := 0) rfl
          have q2 := cell_at q0 (j := 1) rfl
          have HW1 := Lib.hid ((HW.out.op ((Below.refl _ _).alloc (Nat.le_refl _) _)).op hb)
          clear hb HW q0
          go_wp2_with fail
          refine (HT.out.2 _).mono ?_
          rintro e v2 ⟨rfl, hb⟩
          have HW2 := Lib.hid (HW1.out.op hb)
          clear hb HW1 HT q1 q2
          go_wp2
          go_roundw
          case rel => exact ⟨2, by omega, by go_num, HW2.out⟩
          case measure => simp [intOf]
        · rw [show ((2 : Nat) : Int) = 2 from rfl]
          obtain ⟨o, co, hM1, hM2⟩ := qmake_tot y3 y4
          have HT := Lib.hid (And.intro hM1 hM2)
          clear hM1 hM2
          have i0 : ∀ w, (Instr.index 47 (.agg #[.string sm, .string sk, .string y1, .string y2, .string y3, .string y4]) (.int .i64 2)).run Tryz.prog w = .ok (.agg #[.string y3, .string y4]) w := fun _ => by kernel_rfl
          go_wp2_with fail
          refine (HT.out.1 _ (HW.out.op ((Below.refl _ _).alloc (Nat.le_refl _) _)).env).mono ?_
          rintro e v1 ⟨rfl, hb⟩
          have q0 := (hb.block _ (by simp)).trans (heap_alloc_new _ _)
          have q1 := cell_at q0 (j := 0) rfl
          have q2 := cell_at q0 (j := 1) rfl
          have HW1 := Lib.hid ((HW.out.op ((Below.refl _ _).alloc (Nat.le_refl _) _)).op hb)
          clear hb HW q0
          go_wp2_with fail
          refine (HT.out.2 _).mono ?_
          rintro e v2 ⟨rfl, hb⟩
          have HW2 := Lib.hid (HW1.out.op hb)
          clear hb HW1 HT q1 q2
          go_wp2
          go_roundw
          case rel => exact ⟨3, by omega, by go_num, HW2.out⟩
          case measure => simp [intOf]
      · obtain rfl : i = 3 := by omega
        rw [show ((3 : Nat) : Int) = 3 from rfl]
        clear hi hi3
        go_wp2_with fail
        go_loopw [126] (fun iv wr => ∃ i : Nat, i ≤ 6 ∧ iv = .int .i64 (i : Int) ∧ QSix w g b #[.string sa, .string sb, .string x2, .string x3, .string x4, .string x5] wr) (fun iv _ => 6 - (intOf iv).toNat)
        case atStart => exact ⟨0, by omega, rfl, HW.out⟩
        case round =>
          obtain ⟨i, hi, rfl, hr⟩ := hrel
          clear HW
          have HW := Lib.hid hr
          clear hr
          by_cases hi6 : i < 6
          · obtain ⟨x, hx, hsx⟩ := qsix_at HSH.out hi6
            have hcx := cell_at HW.out.2.1 hx
            clear hx
            obtain ⟨pa, pb, pk, hV1, hV2⟩ := qparts_tot x hsx
            obtain ⟨fa, fk, hF1, hF2⟩ := qfloor_tot x hsx
            obtain ⟨vk, hU1, hU2⟩ := qvalid_tot x hsx
            obtain ⟨dk, hD1, hD2⟩ := qdigits_tot x hsx
            obtain ⟨sk2, hS1, hS2⟩ := qsign_tot x hsx
            have HT := Lib.hid (And.intro hV1 (And.intro hV2 (And.intro hF1 (And.intro hF2 (And.intro hU1 (And.intro hU2 (And.intro hD1 (And.intro hD2 (And.intro hS1 hS2)))))))))
            have HX := Lib.hid hsx
            clear hV1 hV2 hF1 hF2 hU1 hU2 hD1 hD2 hS1 hS2 hsx
            go_wp2_with fail
            refine (HT.out.1 _ HW.out.env).mono ?_
            rintro e v0 ⟨rfl, hb⟩
            have HW0 := Lib.hid (HW.out.op hb)
            clear hb HW hcx
            go_wp2_with fail
            refine (HT.out.2.1 _).mono ?_
            rintro e v1 ⟨rfl, hb⟩
            have HW1 := Lib.hid (HW0.out.op hb)
            clear hb HW0
            go_wp2_with fail
            refine (HT.out.2.2.1 _ HW1.out.env).mono ?_
            rintro e v2 ⟨rfl, hb⟩
            have HW2 := Lib.hid (HW1.out.op hb)
            clear hb HW1
            go_wp2_with fail
            refine (HT.out.2.2.2.1 _).mono ?_
            rintro e v3 ⟨rfl, hb⟩
            have HW3 := Lib.hid (HW2.out.op hb)
            clear hb HW2
            go_wp2_with fail
            refine (HT.out.2.2.2.2.1 _ HW3.out.env).mono ?_
            rintro e v4 ⟨rfl, hb⟩
            have HW4 := Lib.hid (HW3.out.op hb)
            clear hb HW3
            go_wp2_with fail
            refine (HT.out.2.2.2.2.2.1 _).mono ?_
            rintro e v5 ⟨rfl, hb⟩
            have HW5 := Lib.hid (HW4.out.op hb)
            clear hb HW4
            go_wp2_with fail
            refine (HT.out.2.2.2.2.2.2.1 _ HW5.out.env).mono ?_
            rintro e v6 ⟨rfl, hb⟩
            have HW6 := Lib.hid (HW5.out.op hb)
            clear hb HW5
            go_wp2_with fail
            refine (HT.out.2.2.2.2.2.2.2.1 _).mono ?_
            rintro e v7 ⟨rfl, hb⟩
            have HW7 := Lib.hid (HW6.out.op hb)
            clear hb HW6
            go_wp2_with fail
            refine (HT.out.2.2.2.2.2.2.2.2.1 _ HW7.out.env).mono ?_
            rintro e v8 ⟨rfl, hb⟩
            have HW8 := Lib.hid (HW7.out.op hb)
            clear hb HW7
            go_wp2_with fail
            refine (HT.out.2.2.2.2.2.2.2.2.2 _).mono ?_
            rintro e v9 ⟨rfl, hb⟩
            have HW9 := Lib.hid (HW8.out.op hb)
            clear hb HW8
            clear HT
            go_wp2_with fail
            go_loopw [199] (fun jv wr => ∃ j : Nat, j ≤ 5 ∧ jv = .int .i64 (j : Int) ∧ QSix w g b #[.string sa, .string sb, .string x2, .string x3, .string x4, .string x5] wr) (fun jv _ => 5 - (intOf jv).toNat)
            case atStart => exact ⟨0, by omega, rfl, HW9.out⟩
            case round =>
              obtain ⟨j, hj, rfl, hr⟩ := hrel
              clear HW9
              have HW := Lib.hid hr
              clear hr
              by_cases hj5 : j < 5
              · obtain ⟨y, hy, hsy⟩ := qsix_at HSH.out (show 1 + j < 6 by omega)
                have hcy := cell_at HW.out.2.1 hy
                clear hy
                obtain ⟨cc, hC1, hC2⟩ := qcompare_tot x y HX.out hsy
                obtain ⟨ar, ak, hA1, hA2⟩ := qadd_tot x y HX.out hsy
                obtain ⟨br, bk, hB1, hB2⟩ := qsub_tot x y HX.out hsy
                obtain ⟨mr, mk, hM1, hM2⟩ := qmul_tot x y HX.out hsy
                obtain ⟨dr, dk2, hD1, hD2⟩ := qdiv_tot x y HX.out hsy
                have HT := Lib.hid (And.intro hC1 (And.intro hC2 (And.intro hA1 (And.intro hA2 (And.intro hB1 (And.intro hB2 (And.intro hM1 (And.intro hM2 (And.intro hD1 hD2)))))))))
                clear hC1 hC2 hA1 hA2 hB1 hB2 hM1 hM2 hD1 hD2 hsy
                go_wp2_with fail
                refine (HT.out.1 _ HW.out.env).mono ?_
                rintro e u0 ⟨rfl, hb⟩
                have HZ0 := Lib.hid (HW.out.op hb)
                clear hb HW hcy
                go_wp2_with fail
                refine (HT.out.2.1 _).mono ?_
                rintro e u1 ⟨rfl, hb⟩
                have HZ1 := Lib.hid (HZ0.out.op hb)
                clear hb HZ0
                go_wp2_with fail
                refine (HT.out.2.2.1 _ HZ1.out.env).mono ?_
                rintro e u2 ⟨rfl, hb⟩
                have HZ2 := Lib.hid (HZ1.out.op hb)
                clear hb HZ1
                go_wp2_with fail
                refine (HT.out.2.2.2.1 _).mono ?_
                rintro e u3 ⟨rfl, hb⟩
                have HZ3 := Lib.hid (HZ2.out.op hb)
                clear hb HZ2
                go_wp2_with fail
                refine (HT.out.2.2.2.2.1 _ HZ3.out.env).mono ?_
                rintro e u4 ⟨rfl, hb⟩
                have HZ4 := Lib.hid (HZ3.out.op hb)
                clear hb HZ3
                go_wp2_with fail
                refine (HT.out.2.2.2.2.2.1 _).mono ?_
                rintro e u5 ⟨rfl, hb⟩
                have HZ5 := Lib.hid (HZ4.out.op hb)
                clear hb HZ4
                go_wp2_with fail
                refine (HT.out.2.2.2.2.2.2.1 _ HZ5.out.env).mono ?_
                rintro e u6 ⟨rfl, hb⟩
                have HZ6 := Lib.hid (HZ5.out.op hb)
                clear hb HZ5
                go_wp2_with fail
                refine (HT.out.2.2.2.2.2.2.2.1 _).mono ?_
                rintro e u7 ⟨rfl, hb⟩
                have HZ7 := Lib.hid (HZ6.out.op hb)
                clear hb HZ6
                go_wp2_with fail
                refine (HT.out.2.2.2.2.2.2.2.2.1 _ HZ7.out.env).mono ?_
                rintro e u8 ⟨rfl, hb⟩
                have HZ8 := Lib.hid (HZ7.out.op hb)
                clear hb HZ7
                go_wp2_with fail
                refine (HT.out.2.2.2.2.2.2.2.2.2 _).mono ?_
                rintro e u9 ⟨rfl, hb⟩
                have HZ9 := Lib.hid (HZ8.out.op hb)
                clear hb HZ8
                clear HT
                go_wp2
                go_roundw
                case rel => exact ⟨j + 1, by omega, by go_num, HZ9.out⟩
                case measure => simp [intOf]; omega
              · obtain rfl : j = 5 := by omega
                rw [show ((5 : Nat) : Int) = 5 from rfl]
                go_wp2
                go_roundw
                case rel => exact ⟨i + 1, by omega, by go_num, HW.out⟩
                case measure => simp [intOf]; omega
          · obtain rfl : i = 6 := by omega
            rw [show ((6 : Nat) : Int) = 6 from rfl]
            go_wp2_with fail
            refine (HW.out.1.sane).mono ?_
            rintro e v9 ⟨rfl, hb⟩
            go_wp2
            go_ret
            exact ⟨rfl, hb⟩
end Go.Proofs.YtfogkkanifnppaaGreatDoor
