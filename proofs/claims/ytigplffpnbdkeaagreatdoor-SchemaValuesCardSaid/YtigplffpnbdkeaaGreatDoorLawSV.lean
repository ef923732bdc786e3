/- The law SchemaValues. -/
import Derived.Test.YtigplffpnbdkeaaGreatDoorSchR
import Derived.Test.YtigplffpnbdkeaaGreatDoorDRatB
import Derived.Deep.DeepCutAuto
namespace Go.Proofs.YtigplffpnbdkeaaGreatDoor
open Go Go.RowKit

theorem itoa_pos (n : Int) : 0 < (Lib.itoa n).length := by
  by_cases h : n < 0
  · rw [T.itoa_neg h, List.length_cons]; omega
  · rw [T.itoa_nonneg h, Lib.decDigits_length]; exact Lib.nDigits_pos _
theorem letter_digit {c : UInt8} (h : T.digit c = true) : letterB c = false := by
  have := T.digit_iff.1 h
  unfold letterB
  rw [decide_eq_false (by omega)]; rfl
theorem word_itoa {s : ByteArray} {n : Int} (h : s.data.toList = Lib.itoa n) : wordB s = false := by
  unfold wordB
  rw [h]
  by_cases hn : n < 0
  · rw [T.itoa_neg hn]
    show (decide _ && letterB 45 && _) = false
    rw [show letterB 45 = false from rfl, Bool.and_false]; rfl
  · rw [T.itoa_nonneg hn]
    cases hd : Lib.decDigits n.natAbs with
    | nil => rfl
    | cons c l =>
      have hc : T.digit c = true := T.decDigits_digit n.natAbs c (by rw [hd]; simp)
      show (decide _ && letterB c && _) = false
      rw [letter_digit hc, Bool.and_false]; rfl
theorem vld_bar {x : Rat} (h : ¬ x.den = 1) : vld (rtx x) = false := by
  cases hv : vld (rtx x) with
  | false => rfl
  | true =>
    obtain ⟨z, hz, _⟩ := itoa_of_vld hv
    exfalso
    refine no_bar_itoa z ?_
    rw [← hz]
    unfold rtx
    rw [if_neg h]
    simp
theorem rtx_pos (x : Rat) : 0 < (rtx x).length := by
  unfold rtx
  split
  · exact itoa_pos _
  · rw [List.length_append]; have := itoa_pos x.num; omega
/-- The three boxes of attributes. -/
def Bx3 (w : World) (h : Nat) : Prop :=
  w.heap[h]? = some (.cells #[.string ⟨#[97]⟩, .int .i64 1] 42 (0, 0)) ∧
  w.heap[h + 1]? = some (.cells #[.string ⟨#[98]⟩, .int .i64 2] 42 (0, 0)) ∧
  w.heap[h + 1 + 1]? = some (.cells #[.string ⟨#[99]⟩, .int .i64 3] 42 (0, 0))
theorem Bx3.below {w w' : World} {h : Nat} (e : Bx3 w h) (hb : Below w.heap.size w w') : Bx3 w' h :=
  ⟨(hb.block _ (lt_of_block e.1)).trans e.1, (hb.block _ (lt_of_block e.2.1)).trans e.2.1, (hb.block _ (lt_of_block e.2.2)).trans e.2.2⟩
theorem word_red : wordB ⟨#[114, 101, 100]⟩ = true := by decide +kernel
theorem rd_red : Rd ⟨#[114, 101, 100]⟩ none := by
  show BadR _
  refine .inl ?_
  refine ⟨[114, 101, 100], [], false, ?_, by decide +kernel⟩
  decide +kernel
set_option maxHeartbeats 6400000 in
set_option maxRecDepth 100000 in
theorem law_svalues {w : World} {n d : Int} (hm : Lx w) (h0 : -9223372036854775808 ≤ n) (h1 : n ≤ 9223372036854775807) (hd0 : 0 ≤ d) (hd1 : d ≤ 255) :
    Calls Tryz.prog 4 #[.int .i64 n, .int .u8 d] w fun e w' => e = .returned (.bool true) ∧ Below w.heap.size w w' := by
  obtain ⟨m, hme⟩ : ∃ m : Int, m = 1 + d % 20 := ⟨_, rfl⟩
  have hm1 : 1 ≤ m := by omega
  have hm2 : m ≤ 20 := by omega
  obtain ⟨x, hx⟩ : ∃ x, x = Rat.divInt n m := ⟨_, rfl⟩
  have hxl : F.Lt (10 ^ 19) x := by rw [hx]; exact divInt_lt (by omega) (by omega) (by omega)
  have hnp := F.new_pos (n := n) (d := m) (by omega)
  rw [← hx] at hnp
  have hnum : x.num.natAbs ≤ n.natAbs := by rw [hnp.1]; exact Int.natAbs_ediv_le_natAbs _ _
  have hmax : x.num ≤ 9223372036854775807 := by
    rw [hnp.1]
    by_cases hn : 0 ≤ n
    · exact Int.le_trans (Int.ediv_le_self _ hn) h1
    · have hg : (0 : Int) < ((Nat.gcd n.natAbs m.natAbs : Nat) : Int) := by
        have := Nat.gcd_pos_of_pos_left m.natAbs (show 0 < n.natAbs by omega)
        omega
      have h2 := Int.ediv_le_ediv hg (show n ≤ 0 by omega)
      rw [Int.zero_ediv] at h2
      omega
  have hden : (x.den : Int) ≤ m := by rw [hnp.2]; exact Int.ediv_le_self _ (by omega)
  obtain ⟨sk, hsk⟩ : ∃ s : ByteArray, s = ⟨(Lib.itoa n).toArray⟩ := ⟨_, rfl⟩
  obtain ⟨sm, hsm⟩ : ∃ s : ByteArray, s = ⟨(Lib.itoa m).toArray⟩ := ⟨_, rfl⟩
  obtain ⟨f, hf⟩ : ∃ s : ByteArray, s = ⟨(rtx x).toArray⟩ := ⟨_, rfl⟩
  obtain ⟨sp, hsp⟩ : ∃ s : ByteArray, s = ⟨(Lib.itoa x.num).toArray⟩ := ⟨_, rfl⟩
  obtain ⟨sq, hsq⟩ : ∃ s : ByteArray, s = ⟨(Lib.itoa (x.den : Int)).toArray⟩ := ⟨_, rfl⟩
  have tk : sk.data.toList = Lib.itoa n := by rw [hsk]
  have tm : sm.data.toList = Lib.itoa m := by rw [hsm]
  have tp : sp.data.toList = Lib.itoa x.num := by rw [hsp]
  have tq : sq.data.toList = Lib.itoa (x.den : Int) := by rw [hsq]
  have dn : Lib.nDigits n.natAbs ≤ 400 := Nat.le_trans (nDigits_le (k := 19) (by decide) (by omega)) (by decide)
  have dm : Lib.nDigits m.natAbs ≤ 400 := Nat.le_trans (nDigits_le (k := 19) (by decide) (by omega)) (by decide)
  have dp : Lib.nDigits x.num.natAbs ≤ 400 := Nat.le_trans (nDigits_le (k := 19) (by decide) (by omega)) (by decide)
  have dq : Lib.nDigits (x.den : Int).natAbs ≤ 400 := Nat.le_trans (nDigits_le (k := 19) (by decide) (by omega)) (by decide)
  have hrd : Rd f (some x) := by rw [hf]; exact hxl.text' (by omega) (by omega)
  have hsf : Short f := ratIs_size hrd
  have zk : 0 < sk.size := by rw [Lib.size_eq, tk]; exact itoa_pos n
  have zf : 0 < f.size := by rw [Lib.size_eq, hf, toArr]; exact rtx_pos x
  have zm : sk.size ≤ maxLen := by have := text_size tk dn; unfold maxLen; omega
  have hqm : qmake n m = .tuple #[.string f, .int .i64 0] := by
    unfold qmake
    rw [if_neg (by omega), ← hx, hf]
    exact qgive_ok (k := 19) hxl (by omega) (by omega)
  have hqp : qparts (some x) = .tuple #[.string sp, .string sq, .bool true] := by rw [hsp, hsq]; rfl
  obtain ⟨F1, hF1⟩ : ∃ b, b = betweenB n (-1000000000) 1000000000 := ⟨_, rfl⟩
  obtain ⟨W1, hW1⟩ : ∃ b, b = (betweenB x.num (-1000000000) 1000000000 && betweenB x.den (-12) 12) := ⟨_, rfl⟩
  have K1 : ∀ w, Calls Tryz.prog 22 #[.agg #[.string ⟨#[97]⟩, .int .i64 1], .string sk] w fun e w' => e = .returned (.bool F1) ∧ Below w.heap.size w w' := fun w => value_key zk fun w => by rw [hF1]; exact within_ok 1000000000 tk h0 h1 (by omega) (by omega)
  have K2 : ∀ w, Lx w → Calls Tryz.prog 22 #[.agg #[.string ⟨#[98]⟩, .int .i64 2], .string f] w fun e w' => e = .returned (.bool W1) ∧ Below w.heap.size w w' := fun w hl => value_num zf hl fun w hl => by rw [hW1]; exact short_ok hl hsf hrd (by omega) (by omega) (by omega)
  have K3 : ¬ x.den = 1 → ∀ w, Calls Tryz.prog 22 #[.agg #[.string ⟨#[97]⟩, .int .i64 1], .string f] w fun e w' => e = .returned (.bool false) ∧ Below w.heap.size w w' := fun h w => value_key zf fun w => within_bad _ (by rw [hf, toArr]; exact vld_bar h)
  have K4 : ∀ w, Calls Tryz.prog 22 #[.agg #[.string ⟨#[99]⟩, .int .i64 3], .string sk] w fun e w' => e = .returned (.bool false) ∧ Below w.heap.size w w' := fun w => by
    have h2 := value_cat (w := w) (nm := ⟨#[99]⟩) zk zm
    rw [word_itoa tk] at h2; exact h2
  have K5 : ∀ w, Calls Tryz.prog 22 #[.agg #[.string ⟨#[99]⟩, .int .i64 3], .string ⟨#[114, 101, 100]⟩] w fun e w' => e = .returned (.bool true) ∧ Below w.heap.size w w' := fun w => by
    have h2 := value_cat (w := w) (nm := ⟨#[99]⟩) (v := ⟨#[114, 101, 100]⟩) (by decide) (by decide)
    rw [word_red] at h2; exact h2
  have K6 : ∀ w, Lx w → Calls Tryz.prog 22 #[.agg #[.string ⟨#[98]⟩, .int .i64 2], .string ⟨#[114, 101, 100]⟩] w fun e w' => e = .returned (.bool false) ∧ Below w.heap.size w w' := fun w hl => value_num (by decide) hl fun w hl => short_bad hl (by unfold Short; decide) rd_red
  have M1 := fun w => rmake_any (w := w) n h0 h1
  have M2 := fun w => rmake_any (w := w) m (by omega) (by omega)
  have M3 := fun w => dmake_ok (w := w) sk sm tk tm dn dm
  have M4 := fun w => dparts_any (w := w) f hsf hrd
  have M5 := fun w => rsmall_ok (w := w) sp tp dp
  have M6 := fun w => rsmall_ok (w := w) sq tq dq
  have hdb : inSm (x.den : Int) = true := decide_eq_true (by omega)
  rw [← hsk] at M1
  rw [← hsm] at M2
  rw [hqm] at M3
  rw [hqp] at M4
  rw [hdb, if_pos rfl] at M6
  obtain ⟨D1, hD1⟩ : ∃ D : Int, D = (x.den : Int) := ⟨_, rfl⟩
  rw [← hD1] at M6
  have hD0 : 0 ≤ D1 := by omega
  have hD20 : D1 ≤ 20 := by omega
  obtain ⟨X1, hX1⟩ : ∃ D : Int, D = (if inSm x.num = true then x.num else 0) := ⟨_, rfl⟩
  rw [← hX1] at M5
  obtain ⟨b1, hb1⟩ : ∃ b, b = inSm x.num := ⟨_, rfl⟩
  rw [← hb1] at M5
  have hq1 : (sq.toList == [49]) = decide (x.den = 1) := by
    rw [Lib.toList_data, tq]
    by_cases h : x.den = 1
    · rw [decide_eq_true h, beq_iff_eq]; exact itoa_is_one.2 h
    · rw [decide_eq_false h, beq_eq_false_iff_ne]; exact fun e => h (itoa_is_one.1 e)
  have HM := Lib.hid (And.intro M1 (And.intro M2 (And.intro M3 (And.intro M4 (And.intro M5 M6)))))
  have HK := Lib.hid (And.intro K1 (And.intro K2 (And.intro K3 (And.intro K4 (And.intro K5 (And.intro K6 hm))))))
  have HE := Lib.hid (And.intro hF1 (And.intro hW1 (And.intro hD1 (And.intro hX1 (And.intro hb1 (And.intro hq1 hme))))))
  clear hmax M1 M2 M3 M4 M5 M6 K1 K2 K3 K4 K5 K6 hm hF1 hW1 hD1 hX1 hb1 hq1 hme hdb hqm hqp hnp hnum hden hx hsk hsm hf hsp hsq tk tm tp tq dn dm dp dq hrd hsf zk zf zm hxl
  go_enter Tryz.func4, Tryz.ntmps4
  go_wp2_with fail
  refine (HM.out.1 _).mono ?_
  rintro e w1 ⟨rfl, hb⟩
  have HB := Lib.hid hb
  clear hb
  go_upto_region 3 with fail
  go_cut [9] from 27 (fun s9 wx => s9 = .bool F1 ∧ Hid (Bx3 wx w1.heap.size ∧ Below w.heap.size w wx))
  case first =>
    have hbx : Bx3 (((w1.alloc (.cells #[.string ⟨#[97]⟩, .int .i64 1] 42)).alloc (.cells #[.string ⟨#[98]⟩, .int .i64 2] 42)).alloc (.cells #[.string ⟨#[99]⟩, .int .i64 3] 42)) w1.heap.size ∧ Below w.heap.size w (((w1.alloc (.cells #[.string ⟨#[97]⟩, .int .i64 1] 42)).alloc (.cells #[.string ⟨#[98]⟩, .int .i64 2] 42)).alloc (.cells #[.string ⟨#[99]⟩, .int .i64 3] 42)) :=
      ⟨⟨block_alloc _ (block_alloc _ (block_new _ rfl)), block_alloc _ (block_new _ (by simp)), block_new _ (by simp)⟩, Below.step HB.out (by go_grown)⟩
    have HX := Lib.hid hbx
    clear hbx
    by_cases hlo : -1000000000 ≤ n
    · by_cases hhi : n ≤ 1000000000
      · have HF := Lib.hid (show F1 = true by rw [HE.out.1]; unfold betweenB; rw [decide_eq_true hlo, decide_eq_true hhi]; rfl)
        go_wp2_with fail
        go_meet
        exact ⟨by rw [HF.out], HX⟩
      · have HF := Lib.hid (show F1 = false by rw [HE.out.1]; unfold betweenB; rw [decide_eq_false hhi, Bool.and_false])
        go_wp2_with fail
        go_meet
        exact ⟨by rw [HF.out], HX⟩
    · have HF := Lib.hid (show F1 = false by rw [HE.out.1]; unfold betweenB; rw [decide_eq_false hlo]; rfl)
      go_wp2_with fail
      go_meet
      exact ⟨by rw [HF.out], HX⟩
  obtain ⟨rfl, HX⟩ := hcut
  clear HB
  go_wp2_with fail
  rw [show (1 : Int) + d % 20 = m from HE.out.2.2.2.2.2.2.symm]
  refine (HM.out.2.1 _).mono ?_
  rintro e w2 ⟨rfl, hb⟩
  have HX2 := Lib.hid (And.intro (HX.out.1.below hb) (HX.out.2.trans (hb.mono HX.out.2.size)))
  clear hb HX
  go_wp2_with fail
  refine (HM.out.2.2.1 _).mono ?_
  rintro e w3 ⟨rfl, hb⟩
  have HX3 := Lib.hid (And.intro (HX2.out.1.below hb) (HX2.out.2.trans (hb.mono HX2.out.2.size)))
  clear hb HX2
  go_wp2_with fail
  refine (HM.out.2.2.2.1 _).mono ?_
  rintro e w4 ⟨rfl, hb⟩
  have HX4 := Lib.hid (And.intro (HX3.out.1.below hb) (HX3.out.2.trans (hb.mono HX3.out.2.size)))
  clear hb HX3
  go_wp2_with fail
  refine (HM.out.2.2.2.2.1 _).mono ?_
  rintro e w5 ⟨rfl, hb⟩
  have HX5 := Lib.hid (And.intro (HX4.out.1.below hb) (HX4.out.2.trans (hb.mono HX4.out.2.size)))
  clear hb HX4
  go_wp2_with fail
  refine (HM.out.2.2.2.2.2 _).mono ?_
  rintro e w6 ⟨rfl, hb⟩
  have HX6 := Lib.hid (And.intro (HX5.out.1.below hb) (HX5.out.2.trans (hb.mono HX5.out.2.size)))
  clear hb HX5
  go_wp2_with fail
  refine (HM.out.2.2.2.2.1 _).mono ?_
  rintro e w7 ⟨rfl, hb⟩
  have HX7 := Lib.hid (And.intro (HX6.out.1.below hb) (HX6.out.2.trans (hb.mono HX6.out.2.size)))
  clear hb HX6
  go_upto_region 11 with fail
  go_cut [21] from 66 (fun s21 wx => s21 = .bool W1 ∧ Hid (Bx3 wx w1.heap.size ∧ Below w.heap.size w wx))
  case first =>
    cases b1 with
    | false =>
      have HF := Lib.hid (show W1 = false by
        have h2 := of_decide_eq_false (show inSm x.num = false from HE.out.2.2.2.2.1.symm)
        rw [HE.out.2.1]; unfold betweenB
        by_cases h3 : -1000000000 ≤ x.num
        · rw [decide_eq_false (show ¬ x.num ≤ 1000000000 by omega), Bool.and_false]; rfl
        · rw [decide_eq_false h3]; rfl)
      go_wp2_with fail
      go_meet
      exact ⟨by rw [HF.out], HX7⟩
    | true =>
      have HX1 := Lib.hid (show X1 = x.num by rw [HE.out.2.2.2.1, show inSm x.num = true from HE.out.2.2.2.2.1.symm, if_pos rfl])
      by_cases hlo : -1000000000 ≤ X1
      · by_cases hhi : X1 ≤ 1000000000
        · by_cases hdd : D1 ≤ 12
          · have HF := Lib.hid (show W1 = true by rw [HE.out.2.1, ← HX1.out, ← HE.out.2.2.1]; unfold betweenB; rw [decide_eq_true hlo, decide_eq_true hhi, decide_eq_true hdd, decide_eq_true (show -12 ≤ D1 by omega)]; rfl)
            go_wp2_with fail
            go_meet
            exact ⟨by rw [HF.out], HX7⟩
          · have HF := Lib.hid (show W1 = false by rw [HE.out.2.1, ← HE.out.2.2.1]; unfold betweenB; rw [decide_eq_false hdd, Bool.and_false, Bool.and_false])
            go_wp2_with fail
            go_meet
            exact ⟨by rw [HF.out], HX7⟩
        · have HF := Lib.hid (show W1 = false by rw [HE.out.2.1, ← HX1.out]; unfold betweenB; rw [decide_eq_false hhi, Bool.and_false]; rfl)
          go_wp2_with fail
          go_meet
          exact ⟨by rw [HF.out], HX7⟩
      · have HF := Lib.hid (show W1 = false by rw [HE.out.2.1, ← HX1.out]; unfold betweenB; rw [decide_eq_false hlo]; rfl)
        go_wp2_with fail
        go_meet
        exact ⟨by rw [HF.out], HX7⟩
  obtain ⟨rfl, HX⟩ := hcut
  clear HX7
  have a0 : wc.cell? ⟨w1.heap.size, 0, none⟩ = some (.string ⟨#[97]⟩) := cell_in HX.out.1.1 rfl
  have a1 : wc.cell? ⟨w1.heap.size, 1, none⟩ = some (.int .i64 1) := cell_in HX.out.1.1 rfl
  have b0 : wc.cell? ⟨w1.heap.size + 1, 0, none⟩ = some (.string ⟨#[98]⟩) := cell_in HX.out.1.2.1 rfl
  have b1 : wc.cell? ⟨w1.heap.size + 1, 1, none⟩ = some (.int .i64 2) := cell_in HX.out.1.2.1 rfl
  have c0 : wc.cell? ⟨w1.heap.size + 1 + 1, 0, none⟩ = some (.string ⟨#[99]⟩) := cell_in HX.out.1.2.2 rfl
  have c1 : wc.cell? ⟨w1.heap.size + 1 + 1, 1, none⟩ = some (.int .i64 3) := cell_in HX.out.1.2.2 rfl
  go_wp2_with fail
  refine (HK.out.1 _).mono ?_
  rintro e u1 ⟨rfl, hb⟩
  have Hu1 := Lib.hid (And.intro (HX.out.1.below hb) (HX.out.2.trans (hb.mono HX.out.2.size)))
  clear hb a0 a1 b0 b1 c0 c1 HX
  have a0 : u1.cell? ⟨w1.heap.size, 0, none⟩ = some (.string ⟨#[97]⟩) := cell_in Hu1.out.1.1 rfl
  have a1 : u1.cell? ⟨w1.heap.size, 1, none⟩ = some (.int .i64 1) := cell_in Hu1.out.1.1 rfl
  have b0 : u1.cell? ⟨w1.heap.size + 1, 0, none⟩ = some (.string ⟨#[98]⟩) := cell_in Hu1.out.1.2.1 rfl
  have b1 : u1.cell? ⟨w1.heap.size + 1, 1, none⟩ = some (.int .i64 2) := cell_in Hu1.out.1.2.1 rfl
  have c0 : u1.cell? ⟨w1.heap.size + 1 + 1, 0, none⟩ = some (.string ⟨#[99]⟩) := cell_in Hu1.out.1.2.2 rfl
  have c1 : u1.cell? ⟨w1.heap.size + 1 + 1, 1, none⟩ = some (.int .i64 3) := cell_in Hu1.out.1.2.2 rfl
  go_wp2_with fail
  refine (HK.out.2.1 _ (HK.out.2.2.2.2.2.2.below Hu1.out.2)).mono ?_
  rintro e u2 ⟨rfl, hb⟩
  have Hu2 := Lib.hid (And.intro (Hu1.out.1.below hb) (Hu1.out.2.trans (hb.mono Hu1.out.2.size)))
  clear hb a0 a1 b0 b1 c0 c1 Hu1
  by_cases hone : x.den = 1
  · have hq := HE.out.2.2.2.2.2.1
    rw [decide_eq_true hone] at hq
    have HO := Lib.hid hone
    clear hone
    have a0 : u2.cell? ⟨w1.heap.size, 0, none⟩ = some (.string ⟨#[97]⟩) := cell_in Hu2.out.1.1 rfl
    have a1 : u2.cell? ⟨w1.heap.size, 1, none⟩ = some (.int .i64 1) := cell_in Hu2.out.1.1 rfl
    have b0 : u2.cell? ⟨w1.heap.size + 1, 0, none⟩ = some (.string ⟨#[98]⟩) := cell_in Hu2.out.1.2.1 rfl
    have b1 : u2.cell? ⟨w1.heap.size + 1, 1, none⟩ = some (.int .i64 2) := cell_in Hu2.out.1.2.1 rfl
    have c0 : u2.cell? ⟨w1.heap.size + 1 + 1, 0, none⟩ = some (.string ⟨#[99]⟩) := cell_in Hu2.out.1.2.2 rfl
    have c1 : u2.cell? ⟨w1.heap.size + 1 + 1, 1, none⟩ = some (.int .i64 3) := cell_in Hu2.out.1.2.2 rfl
    go_wp2_with fail
    refine (HK.out.2.2.2.1 _).mono ?_
    rintro e x1 ⟨rfl, hb⟩
    have Hx1 := Lib.hid (And.intro (Hu2.out.1.below hb) (Hu2.out.2.trans (hb.mono Hu2.out.2.size)))
    clear hb a0 a1 b0 b1 c0 c1 Hu2
    have a0 : x1.cell? ⟨w1.heap.size, 0, none⟩ = some (.string ⟨#[97]⟩) := cell_in Hx1.out.1.1 rfl
    have a1 : x1.cell? ⟨w1.heap.size, 1, none⟩ = some (.int .i64 1) := cell_in Hx1.out.1.1 rfl
    have b0 : x1.cell? ⟨w1.heap.size + 1, 0, none⟩ = some (.string ⟨#[98]⟩) := cell_in Hx1.out.1.2.1 rfl
    have b1 : x1.cell? ⟨w1.heap.size + 1, 1, none⟩ = some (.int .i64 2) := cell_in Hx1.out.1.2.1 rfl
    have c0 : x1.cell? ⟨w1.heap.size + 1 + 1, 0, none⟩ = some (.string ⟨#[99]⟩) := cell_in Hx1.out.1.2.2 rfl
    have c1 : x1.cell? ⟨w1.heap.size + 1 + 1, 1, none⟩ = some (.int .i64 3) := cell_in Hx1.out.1.2.2 rfl
    go_wp2_with fail
    refine (value_empty (.inl rfl)).mono ?_
    rintro e x2 ⟨rfl, hb⟩
    have Hx2 := Lib.hid (And.intro (Hx1.out.1.below hb) (Hx1.out.2.trans (hb.mono Hx1.out.2.size)))
    clear hb a0 a1 b0 b1 c0 c1 Hx1
    have a0 : x2.cell? ⟨w1.heap.size, 0, none⟩ = some (.string ⟨#[97]⟩) := cell_in Hx2.out.1.1 rfl
    have a1 : x2.cell? ⟨w1.heap.size, 1, none⟩ = some (.int .i64 1) := cell_in Hx2.out.1.1 rfl
    have b0 : x2.cell? ⟨w1.heap.size + 1, 0, none⟩ = some (.string ⟨#[98]⟩) := cell_in Hx2.out.1.2.1 rfl
    have b1 : x2.cell? ⟨w1.heap.size + 1, 1, none⟩ = some (.int .i64 2) := cell_in Hx2.out.1.2.1 rfl
    have c0 : x2.cell? ⟨w1.heap.size + 1 + 1, 0, none⟩ = some (.string ⟨#[99]⟩) := cell_in Hx2.out.1.2.2 rfl
    have c1 : x2.cell? ⟨w1.heap.size + 1 + 1, 1, none⟩ = some (.int .i64 3) := cell_in Hx2.out.1.2.2 rfl
    go_wp2_with fail
    refine (value_empty (.inr (.inl rfl))).mono ?_
    rintro e x3 ⟨rfl, hb⟩
    have Hx3 := Lib.hid (And.intro (Hx2.out.1.below hb) (Hx2.out.2.trans (hb.mono Hx2.out.2.size)))
    clear hb a0 a1 b0 b1 c0 c1 Hx2
    have a0 : x3.cell? ⟨w1.heap.size, 0, none⟩ = some (.string ⟨#[97]⟩) := cell_in Hx3.out.1.1 rfl
    have a1 : x3.cell? ⟨w1.heap.size, 1, none⟩ = some (.int .i64 1) := cell_in Hx3.out.1.1 rfl
    have b0 : x3.cell? ⟨w1.heap.size + 1, 0, none⟩ = some (.string ⟨#[98]⟩) := cell_in Hx3.out.1.2.1 rfl
    have b1 : x3.cell? ⟨w1.heap.size + 1, 1, none⟩ = some (.int .i64 2) := cell_in Hx3.out.1.2.1 rfl
    have c0 : x3.cell? ⟨w1.heap.size + 1 + 1, 0, none⟩ = some (.string ⟨#[99]⟩) := cell_in Hx3.out.1.2.2 rfl
    have c1 : x3.cell? ⟨w1.heap.size + 1 + 1, 1, none⟩ = some (.int .i64 3) := cell_in Hx3.out.1.2.2 rfl
    go_wp2_with fail
    refine (value_empty (.inr (.inr rfl))).mono ?_
    rintro e x4 ⟨rfl, hb⟩
    have Hx4 := Lib.hid (And.intro (Hx3.out.1.below hb) (Hx3.out.2.trans (hb.mono Hx3.out.2.size)))
    clear hb a0 a1 b0 b1 c0 c1 Hx3
    have a0 : x4.cell? ⟨w1.heap.size, 0, none⟩ = some (.string ⟨#[97]⟩) := cell_in Hx4.out.1.1 rfl
    have a1 : x4.cell? ⟨w1.heap.size, 1, none⟩ = some (.int .i64 1) := cell_in Hx4.out.1.1 rfl
    have b0 : x4.cell? ⟨w1.heap.size + 1, 0, none⟩ = some (.string ⟨#[98]⟩) := cell_in Hx4.out.1.2.1 rfl
    have b1 : x4.cell? ⟨w1.heap.size + 1, 1, none⟩ = some (.int .i64 2) := cell_in Hx4.out.1.2.1 rfl
    have c0 : x4.cell? ⟨w1.heap.size + 1 + 1, 0, none⟩ = some (.string ⟨#[99]⟩) := cell_in Hx4.out.1.2.2 rfl
    have c1 : x4.cell? ⟨w1.heap.size + 1 + 1, 1, none⟩ = some (.int .i64 3) := cell_in Hx4.out.1.2.2 rfl
    go_wp2_with fail
    refine (HK.out.2.2.2.2.1 _).mono ?_
    rintro e x5 ⟨rfl, hb⟩
    have Hx5 := Lib.hid (And.intro (Hx4.out.1.below hb) (Hx4.out.2.trans (hb.mono Hx4.out.2.size)))
    clear hb a0 a1 b0 b1 c0 c1 Hx4
    have a0 : x5.cell? ⟨w1.heap.size, 0, none⟩ = some (.string ⟨#[97]⟩) := cell_in Hx5.out.1.1 rfl
    have a1 : x5.cell? ⟨w1.heap.size, 1, none⟩ = some (.int .i64 1) := cell_in Hx5.out.1.1 rfl
    have b0 : x5.cell? ⟨w1.heap.size + 1, 0, none⟩ = some (.string ⟨#[98]⟩) := cell_in Hx5.out.1.2.1 rfl
    have b1 : x5.cell? ⟨w1.heap.size + 1, 1, none⟩ = some (.int .i64 2) := cell_in Hx5.out.1.2.1 rfl
    have c0 : x5.cell? ⟨w1.heap.size + 1 + 1, 0, none⟩ = some (.string ⟨#[99]⟩) := cell_in Hx5.out.1.2.2 rfl
    have c1 : x5.cell? ⟨w1.heap.size + 1 + 1, 1, none⟩ = some (.int .i64 3) := cell_in Hx5.out.1.2.2 rfl
    go_wp2_with fail
    refine (HK.out.2.2.2.2.2.1 _ (HK.out.2.2.2.2.2.2.below Hx5.out.2)).mono ?_
    rintro e x6 ⟨rfl, hb⟩
    have Hx6 := Lib.hid (And.intro (Hx5.out.1.below hb) (Hx5.out.2.trans (hb.mono Hx5.out.2.size)))
    clear hb a0 a1 b0 b1 c0 c1 Hx5
    have a0 : x6.cell? ⟨w1.heap.size, 0, none⟩ = some (.string ⟨#[97]⟩) := cell_in Hx6.out.1.1 rfl
    have a1 : x6.cell? ⟨w1.heap.size, 1, none⟩ = some (.int .i64 1) := cell_in Hx6.out.1.1 rfl
    have b0 : x6.cell? ⟨w1.heap.size + 1, 0, none⟩ = some (.string ⟨#[98]⟩) := cell_in Hx6.out.1.2.1 rfl
    have b1 : x6.cell? ⟨w1.heap.size + 1, 1, none⟩ = some (.int .i64 2) := cell_in Hx6.out.1.2.1 rfl
    have c0 : x6.cell? ⟨w1.heap.size + 1 + 1, 0, none⟩ = some (.string ⟨#[99]⟩) := cell_in Hx6.out.1.2.2 rfl
    have c1 : x6.cell? ⟨w1.heap.size + 1 + 1, 1, none⟩ = some (.int .i64 3) := cell_in Hx6.out.1.2.2 rfl
    go_wp2_with fail
    refine (sane05 (HK.out.2.2.2.2.2.2.below Hx6.out.2)).mono ?_
    rintro e x7 ⟨rfl, hb⟩
    have Hx7 := Lib.hid (And.intro (Hx6.out.1.below hb) (Hx6.out.2.trans (hb.mono Hx6.out.2.size)))
    clear hb a0 a1 b0 b1 c0 c1 Hx6
    go_wp2
    go_ret
    exact ⟨rfl, Hx7.out.2⟩
  · have hq := HE.out.2.2.2.2.2.1
    rw [decide_eq_false hone] at hq
    have HO := Lib.hid hone
    clear hone
    have a0 : u2.cell? ⟨w1.heap.size, 0, none⟩ = some (.string ⟨#[97]⟩) := cell_in Hu2.out.1.1 rfl
    have a1 : u2.cell? ⟨w1.heap.size, 1, none⟩ = some (.int .i64 1) := cell_in Hu2.out.1.1 rfl
    have b0 : u2.cell? ⟨w1.heap.size + 1, 0, none⟩ = some (.string ⟨#[98]⟩) := cell_in Hu2.out.1.2.1 rfl
    have b1 : u2.cell? ⟨w1.heap.size + 1, 1, none⟩ = some (.int .i64 2) := cell_in Hu2.out.1.2.1 rfl
    have c0 : u2.cell? ⟨w1.heap.size + 1 + 1, 0, none⟩ = some (.string ⟨#[99]⟩) := cell_in Hu2.out.1.2.2 rfl
    have c1 : u2.cell? ⟨w1.heap.size + 1 + 1, 1, none⟩ = some (.int .i64 3) := cell_in Hu2.out.1.2.2 rfl
    go_wp2_with fail
    refine (HK.out.2.2.1 HO.out _).mono ?_
    rintro e y1 ⟨rfl, hb⟩
    have Hy1 := Lib.hid (And.intro (Hu2.out.1.below hb) (Hu2.out.2.trans (hb.mono Hu2.out.2.size)))
    clear hb a0 a1 b0 b1 c0 c1 Hu2
    have a0 : y1.cell? ⟨w1.heap.size, 0, none⟩ = some (.string ⟨#[97]⟩) := cell_in Hy1.out.1.1 rfl
    have a1 : y1.cell? ⟨w1.heap.size, 1, none⟩ = some (.int .i64 1) := cell_in Hy1.out.1.1 rfl
    have b0 : y1.cell? ⟨w1.heap.size + 1, 0, none⟩ = some (.string ⟨#[98]⟩) := cell_in Hy1.out.1.2.1 rfl
    have b1 : y1.cell? ⟨w1.heap.size + 1, 1, none⟩ = some (.int .i64 2) := cell_in Hy1.out.1.2.1 rfl
    have c0 : y1.cell? ⟨w1.heap.size + 1 + 1, 0, none⟩ = some (.string ⟨#[99]⟩) := cell_in Hy1.out.1.2.2 rfl
    have c1 : y1.cell? ⟨w1.heap.size + 1 + 1, 1, none⟩ = some (.int .i64 3) := cell_in Hy1.out.1.2.2 rfl
    go_wp2_with fail
    refine (HK.out.2.2.2.1 _).mono ?_
    rintro e y2 ⟨rfl, hb⟩
    have Hy2 := Lib.hid (And.intro (Hy1.out.1.below hb) (Hy1.out.2.trans (hb.mono Hy1.out.2.size)))
    clear hb a0 a1 b0 b1 c0 c1 Hy1
    have a0 : y2.cell? ⟨w1.heap.size, 0, none⟩ = some (.string ⟨#[97]⟩) := cell_in Hy2.out.1.1 rfl
    have a1 : y2.cell? ⟨w1.heap.size, 1, none⟩ = some (.int .i64 1) := cell_in Hy2.out.1.1 rfl
    have b0 : y2.cell? ⟨w1.heap.size + 1, 0, none⟩ = some (.string ⟨#[98]⟩) := cell_in Hy2.out.1.2.1 rfl
    have b1 : y2.cell? ⟨w1.heap.size + 1, 1, none⟩ = some (.int .i64 2) := cell_in Hy2.out.1.2.1 rfl
    have c0 : y2.cell? ⟨w1.heap.size + 1 + 1, 0, none⟩ = some (.string ⟨#[99]⟩) := cell_in Hy2.out.1.2.2 rfl
    have c1 : y2.cell? ⟨w1.heap.size + 1 + 1, 1, none⟩ = some (.int .i64 3) := cell_in Hy2.out.1.2.2 rfl
    go_wp2_with fail
    refine (value_empty (.inl rfl)).mono ?_
    rintro e y3 ⟨rfl, hb⟩
    have Hy3 := Lib.hid (And.intro (Hy2.out.1.below hb) (Hy2.out.2.trans (hb.mono Hy2.out.2.size)))
    clear hb a0 a1 b0 b1 c0 c1 Hy2
    have a0 : y3.cell? ⟨w1.heap.size, 0, none⟩ = some (.string ⟨#[97]⟩) := cell_in Hy3.out.1.1 rfl
    have a1 : y3.cell? ⟨w1.heap.size, 1, none⟩ = some (.int .i64 1) := cell_in Hy3.out.1.1 rfl
    have b0 : y3.cell? ⟨w1.heap.size + 1, 0, none⟩ = some (.string ⟨#[98]⟩) := cell_in Hy3.out.1.2.1 rfl
    have b1 : y3.cell? ⟨w1.heap.size + 1, 1, none⟩ = some (.int .i64 2) := cell_in Hy3.out.1.2.1 rfl
    have c0 : y3.cell? ⟨w1.heap.size + 1 + 1, 0, none⟩ = some (.string ⟨#[99]⟩) := cell_in Hy3.out.1.2.2 rfl
    have c1 : y3.cell? ⟨w1.heap.size + 1 + 1, 1, none⟩ = some (.int .i64 3) := cell_in Hy3.out.1.2.2 rfl
    go_wp2_with fail
    refine (value_empty (.inr (.inl rfl))).mono ?_
    rintro e y4 ⟨rfl, hb⟩
    have Hy4 := Lib.hid (And.intro (Hy3.out.1.below hb) (Hy3.out.2.trans (hb.mono Hy3.out.2.size)))
    clear hb a0 a1 b0 b1 c0 c1 Hy3
    have a0 : y4.cell? ⟨w1.heap.size, 0, none⟩ = some (.string ⟨#[97]⟩) := cell_in Hy4.out.1.1 rfl
    have a1 : y4.cell? ⟨w1.heap.size, 1, none⟩ = some (.int .i64 1) := cell_in Hy4.out.1.1 rfl
    have b0 : y4.cell? ⟨w1.heap.size + 1, 0, none⟩ = some (.string ⟨#[98]⟩) := cell_in Hy4.out.1.2.1 rfl
    have b1 : y4.cell? ⟨w1.heap.size + 1, 1, none⟩ = some (.int .i64 2) := cell_in Hy4.out.1.2.1 rfl
    have c0 : y4.cell? ⟨w1.heap.size + 1 + 1, 0, none⟩ = some (.string ⟨#[99]⟩) := cell_in Hy4.out.1.2.2 rfl
    have c1 : y4.cell? ⟨w1.heap.size + 1 + 1, 1, none⟩ = some (.int .i64 3) := cell_in Hy4.out.1.2.2 rfl
    go_wp2_with fail
    refine (value_empty (.inr (.inr rfl))).mono ?_
    rintro e y5 ⟨rfl, hb⟩
    have Hy5 := Lib.hid (And.intro (Hy4.out.1.below hb) (Hy4.out.2.trans (hb.mono Hy4.out.2.size)))
    clear hb a0 a1 b0 b1 c0 c1 Hy4
    have a0 : y5.cell? ⟨w1.heap.size, 0, none⟩ = some (.string ⟨#[97]⟩) := cell_in Hy5.out.1.1 rfl
    have a1 : y5.cell? ⟨w1.heap.size, 1, none⟩ = some (.int .i64 1) := cell_in Hy5.out.1.1 rfl
    have b0 : y5.cell? ⟨w1.heap.size + 1, 0, none⟩ = some (.string ⟨#[98]⟩) := cell_in Hy5.out.1.2.1 rfl
    have b1 : y5.cell? ⟨w1.heap.size + 1, 1, none⟩ = some (.int .i64 2) := cell_in Hy5.out.1.2.1 rfl
    have c0 : y5.cell? ⟨w1.heap.size + 1 + 1, 0, none⟩ = some (.string ⟨#[99]⟩) := cell_in Hy5.out.1.2.2 rfl
    have c1 : y5.cell? ⟨w1.heap.size + 1 + 1, 1, none⟩ = some (.int .i64 3) := cell_in Hy5.out.1.2.2 rfl
    go_wp2_with fail
    refine (HK.out.2.2.2.2.1 _).mono ?_
    rintro e y6 ⟨rfl, hb⟩
    have Hy6 := Lib.hid (And.intro (Hy5.out.1.below hb) (Hy5.out.2.trans (hb.mono Hy5.out.2.size)))
    clear hb a0 a1 b0 b1 c0 c1 Hy5
    have a0 : y6.cell? ⟨w1.heap.size, 0, none⟩ = some (.string ⟨#[97]⟩) := cell_in Hy6.out.1.1 rfl
    have a1 : y6.cell? ⟨w1.heap.size, 1, none⟩ = some (.int .i64 1) := cell_in Hy6.out.1.1 rfl
    have b0 : y6.cell? ⟨w1.heap.size + 1, 0, none⟩ = some (.string ⟨#[98]⟩) := cell_in Hy6.out.1.2.1 rfl
    have b1 : y6.cell? ⟨w1.heap.size + 1, 1, none⟩ = some (.int .i64 2) := cell_in Hy6.out.1.2.1 rfl
    have c0 : y6.cell? ⟨w1.heap.size + 1 + 1, 0, none⟩ = some (.string ⟨#[99]⟩) := cell_in Hy6.out.1.2.2 rfl
    have c1 : y6.cell? ⟨w1.heap.size + 1 + 1, 1, none⟩ = some (.int .i64 3) := cell_in Hy6.out.1.2.2 rfl
    go_wp2_with fail
    refine (HK.out.2.2.2.2.2.1 _ (HK.out.2.2.2.2.2.2.below Hy6.out.2)).mono ?_
    rintro e y7 ⟨rfl, hb⟩
    have Hy7 := Lib.hid (And.intro (Hy6.out.1.below hb) (Hy6.out.2.trans (hb.mono Hy6.out.2.size)))
    clear hb a0 a1 b0 b1 c0 c1 Hy6
    have a0 : y7.cell? ⟨w1.heap.size, 0, none⟩ = some (.string ⟨#[97]⟩) := cell_in Hy7.out.1.1 rfl
    have a1 : y7.cell? ⟨w1.heap.size, 1, none⟩ = some (.int .i64 1) := cell_in Hy7.out.1.1 rfl
    have b0 : y7.cell? ⟨w1.heap.size + 1, 0, none⟩ = some (.string ⟨#[98]⟩) := cell_in Hy7.out.1.2.1 rfl
    have b1 : y7.cell? ⟨w1.heap.size + 1, 1, none⟩ = some (.int .i64 2) := cell_in Hy7.out.1.2.1 rfl
    have c0 : y7.cell? ⟨w1.heap.size + 1 + 1, 0, none⟩ = some (.string ⟨#[99]⟩) := cell_in Hy7.out.1.2.2 rfl
    have c1 : y7.cell? ⟨w1.heap.size + 1 + 1, 1, none⟩ = some (.int .i64 3) := cell_in Hy7.out.1.2.2 rfl
    go_wp2_with fail
    refine (sane05 (HK.out.2.2.2.2.2.2.below Hy7.out.2)).mono ?_
    rintro e y8 ⟨rfl, hb⟩
    have Hy8 := Lib.hid (And.intro (Hy7.out.1.below hb) (Hy7.out.2.trans (hb.mono Hy7.out.2.size)))
    clear hb a0 a1 b0 b1 c0 c1 Hy7
    go_wp2
    go_ret
    exact ⟨rfl, Hy8.out.2⟩
end Go.Proofs.YtigplffpnbdkeaaGreatDoor
