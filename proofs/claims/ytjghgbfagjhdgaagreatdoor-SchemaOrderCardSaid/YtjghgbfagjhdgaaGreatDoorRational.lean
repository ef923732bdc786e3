/- Package rational: cut and read. -/
import Derived.Test.YtjghgbfagjhdgaaGreatDoorRatWX
import Derived.Test.YtjghgbfagjhdgaaGreatDoorLawOrder
import Derived.Test.YtjghgbfagjhdgaaGreatDoorRelW
namespace Go.Proofs.YtjghgbfagjhdgaaGreatDoor
open Go Go.RowKit
set_option maxHeartbeats 800000 in
theorem compare_bad {w : World} (s t : ByteArray) (h : (vld s.data.toList && vld t.data.toList) = false) :
    Calls Tryz.prog 193 #[.string s, .string t] w fun e w' => e = .returned (.int .i64 0) ∧ Below w.heap.size w w' := by
  have H := Lib.hid h
  clear h
  by_cases h1 : vld s.data.toList = true
  · have h2 : vld t.data.toList = false := by have := H.out; rw [h1, Bool.true_and] at this; exact this
    have HV := Lib.hid (And.intro h1 h2)
    clear h1 h2
    go_enter Tryz.func193, Tryz.ntmps193
    go_wp2_with fail
    refine (valid_c s HV.out.1).mono ?_
    rintro e w1 ⟨rfl, rfl⟩
    go_wp2_with fail
    refine (valid_c t HV.out.2).mono ?_
    rintro e w1 ⟨rfl, rfl⟩
    go_wp2
    go_ret
    exact ⟨rfl, Below.refl _ _⟩
  · have h2 : vld s.data.toList = false := by simpa using h1
    have HV := Lib.hid h2
    clear h1 h2
    go_enter Tryz.func193, Tryz.ntmps193
    go_wp2_with fail
    refine (valid_c s HV.out).mono ?_
    rintro e w1 ⟨rfl, rfl⟩
    go_wp2
    go_ret
    exact ⟨rfl, Below.refl _ _⟩
theorem num_of {s : ByteArray} {z : Int} {k : Nat} (h : s.data.toList = Lib.itoa z) (hd : Lib.nDigits z.natAbs ≤ k) : Num s z k :=
  ⟨h, Nat.lt_of_lt_of_le (Lib.lt_pow_nDigits _) (Nat.pow_le_pow_right (by decide) hd)⟩

theorem cut_any {w : World} (s : ByteArray) {sa sb : ByteArray} {k : Bool} (hm : Lx w) (hsz : s.size < 4294967281) (hc : Lib.cut s.data.toList [47] = (sa.data.toList, sb.data.toList, k)) :
    Calls Tryz.prog 191 #[.string s] w fun e w' => e = .returned (.tuple #[.string sa, .string sb, .bool k]) ∧ Below w.heap.size w w' := by
  obtain ⟨m, hm, _⟩ := hm
  have H := Lib.hid hc
  clear hc
  go_enter Tryz.func191, Tryz.ntmps191
  go_wp2_with fail
  refine (Tryz.strings_Cut s ⟨#[47]⟩ m _ hsz hm).mono ?_
  rw [show (⟨#[47]⟩ : ByteArray).data.toList = [47] from rfl, H.out]
  rintro e w1 ⟨rfl, n, rfl⟩
  go_wp2
  go_ret3
  exact ⟨rfl, (Drawn.refl w).drewN n |>.below _⟩
/-- The zero value of a fraction. -/
def ratZero : Value := .agg #[.int .i64 0, .slice none 0 0, .int .i64 0, .slice none 0 0]
theorem ratZero_is (w : World) : IsRat w ratZero 0 := ⟨0, none, 0, 0, 0, none, 0, 0, rfl, IsInt.short w (z := 0) (by decide), 0, IsInt.short w (z := 0) (by decide), .inr ⟨rfl, rfl⟩⟩
theorem txt2 : (⟨#[50]⟩ : ByteArray).data.toList = Lib.itoa 2 := by decide +kernel
theorem vld2 : vld (⟨#[50]⟩ : ByteArray).data.toList = true := by decide +kernel

set_option linter.unusedSimpArgs false in
set_option linter.unusedSimpArgs false in
set_option maxHeartbeats 4000000 in
set_option maxRecDepth 100000 in
theorem read_case1 {w : World} (s : ByteArray) {sa sb : ByteArray} {k : Bool} (hm : Lx w) (hsz : s.size < 4294967281) (hc : Lib.cut s.data.toList [47] = (sa.data.toList, sb.data.toList, k)) (hv : vld sa.data.toList = false) :
    Calls Tryz.prog 142 #[.string s] w fun e w' => e = .returned (.tuple #[ratZero, .bool false]) ∧ Below w.heap.size w w' := by
  have H := Lib.hid (And.intro hm (And.intro hc hv))
  clear hm hc hv
  go_enter Tryz.func142, Tryz.ntmps142
  go_upto_region 1 with fail
  have hP := (Pls.start w).newRhole rfl
  generalize w.alloc (.cells #[.int .i64 0, .slice none 0 0, .int .i64 0, .slice none 0 0] 90) = w0 at *
  have HP := Lib.hid hP
  clear hP
  go_wp2_with fail
  refine (cut_any s (H.out.1.below HP.out.below) hsz H.out.2.1).mono ?_
  rintro e w1 ⟨rfl, hb⟩
  have H1 := Lib.hid (HP.out.next hb)
  clear hb
  go_wp2_with fail
  refine (valid_any sa).mono ?_
  rw [H.out.2.2]
  rintro e w2 ⟨rfl, rfl⟩
  obtain ⟨m0, m1, m2, m3, d0, d1, d2, d3, f0, f1, f2, f3⟩ := H1.out.rhole 0 rfl
  go_wp2
  have hF := H1.out.rstored 0 rfl (ratZero_is w1)
  rw [show (((w1.setCell ⟨w.heap.size, 0, none⟩ (.int .i64 0)).setCell ⟨w.heap.size, 1, none⟩ (.slice none 0 0)).setCell ⟨w.heap.size, 2, none⟩ (.int .i64 0)).setCell ⟨w.heap.size, 3, none⟩ (.slice none 0 0) = stRat w1 w.heap.size 0 none 0 0 0 none 0 0 from rfl]
  generalize stRat w1 w.heap.size 0 none 0 0 0 none 0 0 = W3 at *
  obtain ⟨z0, z1, z2, z3, z4, z5⟩ := hF
  exact bodyPost_ret (v := .tuple #[ratZero, .bool false]) (by simp [results, Tryz.results142, go_sem, z0, z1, z2, z3, ratZero]) rfl ⟨rfl, z5.below⟩
set_option linter.unusedSimpArgs false in
set_option maxHeartbeats 4000000 in
set_option maxRecDepth 100000 in
theorem read_case2 {w : World} (s : ByteArray) {sa sb : ByteArray} (hm : Lx w) (hsz : s.size < 4294967281) (hc : Lib.cut s.data.toList [47] = (sa.data.toList, sb.data.toList, true)) (hv : vld sa.data.toList = true) (hv2 : vld sb.data.toList = false) :
    Calls Tryz.prog 142 #[.string s] w fun e w' => e = .returned (.tuple #[ratZero, .bool false]) ∧ Below w.heap.size w w' := by
  have H := Lib.hid (And.intro hm (And.intro hc (And.intro hv hv2)))
  clear hm hc hv hv2
  go_enter Tryz.func142, Tryz.ntmps142
  go_upto_region 1 with fail
  have hP := (Pls.start w).newRhole rfl
  generalize w.alloc (.cells #[.int .i64 0, .slice none 0 0, .int .i64 0, .slice none 0 0] 90) = w0 at *
  have HP := Lib.hid hP
  clear hP
  go_wp2_with fail
  refine (cut_any s (H.out.1.below HP.out.below) hsz H.out.2.1).mono ?_
  rintro e w1 ⟨rfl, hb⟩
  have H1 := Lib.hid (HP.out.next hb)
  clear hb
  go_wp2_with fail
  refine (valid_any sa).mono ?_
  rw [H.out.2.2.1]
  rintro e w2 ⟨rfl, rfl⟩
  go_wp2_with fail
  refine (compare_bad sb ⟨#[50]⟩ (by rw [H.out.2.2.2]; rfl)).mono ?_
  rintro e w3 ⟨rfl, hb⟩
  have H3 := Lib.hid (H1.out.next hb)
  clear hb
  go_wp2_with fail
  refine (valid_any sb).mono ?_
  rw [H.out.2.2.2]
  rintro e w4 ⟨rfl, rfl⟩
  obtain ⟨m0, m1, m2, m3, d0, d1, d2, d3, f0, f1, f2, f3⟩ := H3.out.rhole 0 rfl
  go_wp2
  have hF := H3.out.rstored 0 rfl (ratZero_is w3)
  rw [show (((w3.setCell ⟨w.heap.size, 0, none⟩ (.int .i64 0)).setCell ⟨w.heap.size, 1, none⟩ (.slice none 0 0)).setCell ⟨w.heap.size, 2, none⟩ (.int .i64 0)).setCell ⟨w.heap.size, 3, none⟩ (.slice none 0 0) = stRat w3 w.heap.size 0 none 0 0 0 none 0 0 from rfl]
  generalize stRat w3 w.heap.size 0 none 0 0 0 none 0 0 = W3 at *
  obtain ⟨z0, z1, z2, z3, z4, z5⟩ := hF
  exact bodyPost_ret (v := .tuple #[ratZero, .bool false]) (by simp [results, Tryz.results142, go_sem, z0, z1, z2, z3, ratZero]) rfl ⟨rfl, z5.below⟩
set_option linter.unusedSimpArgs false in
set_option maxHeartbeats 4000000 in
set_option maxRecDepth 100000 in
theorem read_case3 {w : World} (s : ByteArray) {sa sb : ByteArray} {d : Int} (hm : Lx w) (hsz : s.size < 4294967281) (hc : Lib.cut s.data.toList [47] = (sa.data.toList, sb.data.toList, true)) (hv : vld sa.data.toList = true) (hd : sb.data.toList = Lib.itoa d) (hd4 : Lib.nDigits d.natAbs ≤ 400) (h2 : d < 2) :
    Calls Tryz.prog 142 #[.string s] w fun e w' => e = .returned (.tuple #[ratZero, .bool false]) ∧ Below w.heap.size w w' := by
  have hcm : cmpI d 2 = -1 := by unfold cmpI; rw [if_pos h2]
  have H := Lib.hid (And.intro hm (And.intro hc (And.intro hv (And.intro hd (And.intro hd4 hcm)))))
  clear hm hc hv hd hd4 h2 hcm
  go_enter Tryz.func142, Tryz.ntmps142
  go_upto_region 1 with fail
  have hP := (Pls.start w).newRhole rfl
  generalize w.alloc (.cells #[.int .i64 0, .slice none 0 0, .int .i64 0, .slice none 0 0] 90) = w0 at *
  have HP := Lib.hid hP
  clear hP
  go_wp2_with fail
  refine (cut_any s (H.out.1.below HP.out.below) hsz H.out.2.1).mono ?_
  rintro e w1 ⟨rfl, hb⟩
  have H1 := Lib.hid (HP.out.next hb)
  clear hb
  go_wp2_with fail
  refine (valid_any sa).mono ?_
  rw [H.out.2.2.1]
  rintro e w2 ⟨rfl, rfl⟩
  go_wp2_with fail
  refine (compare_num (num_of H.out.2.2.2.1 H.out.2.2.2.2.1) (num_of txt2 (by decide +kernel)) (by omega) (Nat.le_refl _)).mono ?_
  rw [H.out.2.2.2.2.2]
  rintro e w3 ⟨rfl, hb⟩
  have H3 := Lib.hid (H1.out.next hb)
  clear hb
  obtain ⟨m0, m1, m2, m3, d0, d1, d2, d3, f0, f1, f2, f3⟩ := H3.out.rhole 0 rfl
  go_wp2
  have hF := H3.out.rstored 0 rfl (ratZero_is w3)
  rw [show (((w3.setCell ⟨w.heap.size, 0, none⟩ (.int .i64 0)).setCell ⟨w.heap.size, 1, none⟩ (.slice none 0 0)).setCell ⟨w.heap.size, 2, none⟩ (.int .i64 0)).setCell ⟨w.heap.size, 3, none⟩ (.slice none 0 0) = stRat w3 w.heap.size 0 none 0 0 0 none 0 0 from rfl]
  generalize stRat w3 w.heap.size 0 none 0 0 0 none 0 0 = W3 at *
  obtain ⟨z0, z1, z2, z3, z4, z5⟩ := hF
  exact bodyPost_ret (v := .tuple #[ratZero, .bool false]) (by simp [results, Tryz.results142, go_sem, z0, z1, z2, z3, ratZero]) rfl ⟨rfl, z5.below⟩
set_option linter.unusedSimpArgs false in
set_option maxHeartbeats 4000000 in
set_option maxRecDepth 100000 in
theorem read_div {w : World} (s : ByteArray) {sa sb : ByteArray} {n d : Int} (hm : Lx w) (hsz : s.size < 4294967281) (hc : Lib.cut s.data.toList [47] = (sa.data.toList, sb.data.toList, true)) (hn : sa.data.toList = Lib.itoa n) (hd : sb.data.toList = Lib.itoa d) (hn4 : Lib.nDigits n.natAbs ≤ 400) (hd4 : Lib.nDigits d.natAbs ≤ 400) (h2 : 2 ≤ d) :
    Calls Tryz.prog 142 #[.string s] w fun e w' => ∃ v, e = .returned (.tuple #[v, .bool (decide (Nat.gcd n.natAbs d.natAbs = 1))]) ∧ (Nat.gcd n.natAbs d.natAbs = 1 → IsFr w' v n d) ∧ (Nat.gcd n.natAbs d.natAbs ≠ 1 → v = ratZero) ∧ Below w.heap.size w w' := by
  have hcm : 0 ≤ cmpI d 2 := by unfold cmpI; rw [if_neg (by omega)]; split <;> omega
  obtain ⟨cm, hcme⟩ : ∃ cm, cm = cmpI d 2 := ⟨_, rfl⟩
  rw [← hcme] at hcm
  obtain ⟨G, hG⟩ : ∃ G : Int, G = ((Nat.gcd n.natAbs d.natAbs : Nat) : Int) := ⟨_, rfl⟩
  have hGp : 0 < Nat.gcd n.natAbs d.natAbs := Nat.gcd_pos_of_pos_right _ (by omega)
  have hGk : G.natAbs < M.B ^ 42 := by
    have h1 : Nat.gcd n.natAbs d.natAbs ≤ d.natAbs := Nat.gcd_le_right _ (by omega)
    have h3 := lt_ten _ hd4
    rw [hG, Int.natAbs_natCast]; omega
  obtain ⟨cg, hcg⟩ : ∃ cg, cg = cmpI G 1 := ⟨_, rfl⟩
  have hgt : (cg != 0) = !decide (Nat.gcd n.natAbs d.natAbs = 1) := by
    rw [hcg]
    unfold cmpI
    by_cases h : Nat.gcd n.natAbs d.natAbs = 1
    · rw [decide_eq_true h, hG, h]; rfl
    · rw [decide_eq_false h, if_neg (by omega), if_pos (by omega)]; rfl
  have hva : vld sa.data.toList = true := by rw [hn]; exact vld_itoa hn4
  have hvb : vld sb.data.toList = true := by rw [hd]; exact vld_itoa hd4
  have HV := Lib.hid (And.intro hva (And.intro hvb hcme))
  have HG := Lib.hid (And.intro hG (And.intro hGk (And.intro hcg hgt)))
  have H := Lib.hid (And.intro hm (And.intro hc (And.intro hn (And.intro hd (And.intro hn4 (And.intro hd4 (And.intro h2 True.intro)))))))
  clear hm hc hn hd hn4 hd4 h2 hcme hG hGp hGk hcg hva hvb
  go_enter Tryz.func142, Tryz.ntmps142
  go_upto_region 1 with fail
  have hP := (Pls.start w).newRhole rfl
  generalize w.alloc (.cells #[.int .i64 0, .slice none 0 0, .int .i64 0, .slice none 0 0] 90) = w0 at *
  have HP := Lib.hid hP
  clear hP
  go_wp2_with fail
  refine (cut_any s (H.out.1.below HP.out.below) hsz H.out.2.1).mono ?_
  rintro e w1 ⟨rfl, hb⟩
  have H1 := Lib.hid (HP.out.next hb)
  clear hb
  go_wp2_with fail
  refine (valid_any sa).mono ?_
  rw [HV.out.1]
  rintro e w2 ⟨rfl, rfl⟩
  go_wp2_with fail
  refine (compare_num (num_of H.out.2.2.2.1 H.out.2.2.2.2.2.1) (num_of txt2 (by decide +kernel)) (by omega) (Nat.le_refl _)).mono ?_
  rw [← HV.out.2.2]
  rintro e w3 ⟨rfl, hb⟩
  have H3 := Lib.hid (H1.out.next hb)
  clear hb
  have hcmb : decide (cm < 0) = false := decide_eq_false (by omega)
  go_wp2_with fail
  refine (valid_any sb).mono ?_
  rw [HV.out.2.1]
  rintro e w4 ⟨rfl, rfl⟩
  clear hcmb hcm
  go_upto_region 6 with fail
  go_cut [7] from 17 (fun s7 wx => ∃ g7 : Nat, s7 = .pointer (some ⟨g7, 0, none⟩) ∧ Pls w [(w.heap.size, .rhole), (g7, .fr n d)] wx)
  case first =>
    go_wp2_with fail
    refine (readRat_raw s (H.out.1.below H3.out.below) hsz (by rw [H.out.2.1, H.out.2.2.1, H.out.2.2.2.1]) H.out.2.2.2.2.1 H.out.2.2.2.2.2.1).mono ?_
    rintro e w5 ⟨v, rfl, hv, hb⟩
    obtain ⟨sx, Ax, lx, cx, tx, Ax', lx', cx', rfl⟩ := hv.shape
    have H5 := Lib.hid (And.intro (H3.out.next hb) hv)
    clear hv hb
    go_wp2_with fail
    go_meet
    exact ⟨_, rfl, H5.out.1.boxFr H5.out.2 rfl⟩
  clear hgt
  obtain ⟨g7, rfl, hP⟩ := hcut
  go_upto_region 7 with fail
  go_cut [42] from 17 (fun s42 wx => s42 = .bool (cg != 0) ∧ Pls w [(w.heap.size, .rhole), (g7, .fr n d)] wx)
  case first =>
    refine RelG.region_rest 11 [0, 1, 2, 3, 4, 5, 6, 7, 8, 9, 10] _ rfl rfl (R := [fun v _ => v = .bool true, fun v _ => v = .bool true, fun v w => IsFr w v n d, fun v w => IsInt w v n, fun v w => IsFr w v n d, fun v w => IsInt w v d, fun v w => IsInt w v G, fun v w => IsInt w v 1, fun v _ => v = .int .i64 cg, fun v _ => v = .bool (cg != 0), fun v _ => v = .bool (cg != 0)])
      (E := RE w [(w.heap.size, .rhole), (g7, .fr n d)] wc.heap.size 1000 1001) (T := fun w w' => Below w.heap.size w w') (by kernel_rfl) (by kernel_rfl) (by kernel_rfl) (RE.start hP 1000 1001) ?_ ?_ ?_
    · intro D vals i v w1 w2 hi hE hT hv
      match i, hi with
      | 3, _ | 5, _ | 6, _ | 7, _ => exact IsInt.below hv hT (Nat.le_refl _)
      | 2, _ | 4, _ => exact IsFr.below hv hT
      | 0, _ | 1, _ | 8, _ | 9, _ | 10, _ => exact hv
      | i + 11, hi => exact absurd hi (by omega)
    · refine RelG.Steps.cons (L := []) rfl (by kernel_rfl) ?_ ?_
      · intro vals w' D hE hF hR K hK
        simp only [Rel.putL, Rel.dst, z1, z2, z3, z4, Act.put, z5, z6, z7] at hK ⊢
        refine RelG.yes rfl ?_
        go_simp
        exact hK _ _ rfl (Below.refl _ _) (hE.same (by decide) (by decide))
      refine RelG.Steps.cons (L := [0]) rfl (by kernel_rfl) ?_ ?_
      · intro vals w' D hE hF hR K hK
        have d0 : vals 0 = .bool true := hR.1
        simp only [Rel.putL, Rel.dst, z1, z2, z3, z4, Act.put, z5, z6, z7, d0] at hK ⊢
        refine RelG.yes rfl ?_
        go_simp
        exact hK _ _ rfl (Below.refl _ _) (hE.same (by decide) (by decide))
      refine RelG.Steps.cons (L := [1]) rfl (by kernel_rfl) ?_ ?_
      · intro vals w' D hE hF hR K hK
        have d1 : vals 1 = .bool true := hR.1
        obtain ⟨s, A, l, c, t, A', l', c', c0, c1, c2, c3, hi⟩ := hE.1.fr 1 rfl
        simp only [Rel.putL, Rel.dst, z1, z2, z3, z4, Act.put, z5, z6, z7, d1] at hK ⊢
        refine RelG.yes rfl ?_
        go_simp
        exact hK _ _ hi (Below.refl _ _) (hE.same (by decide) (by decide))
      refine RelG.Steps.cons (L := [2, 1]) rfl (by kernel_rfl) ?_ ?_
      · intro vals w' D hE hF hR K hK
        have r2 := hR.1
        have d1 : vals 1 = .bool true := hR.2.1
        simp only [Rel.putL, Rel.dst, z1, z2, z3, z4, Act.put, z5, z6, z7, d1] at hK ⊢
        refine RelG.yes rfl ?_
        go_simp
        go_at_call 107
        refine (numF_any r2).mono ?_
        rintro e w2 ⟨v, rfl, hv, hb⟩
        exact hK _ _ hv hb (hE.step hb (by decide) (by decide))
      refine RelG.Steps.cons (L := [1]) rfl (by kernel_rfl) ?_ ?_
      · intro vals w' D hE hF hR K hK
        have d1 : vals 1 = .bool true := hR.1
        obtain ⟨s, A, l, c, t, A', l', c', c0, c1, c2, c3, hi⟩ := hE.1.fr 1 rfl
        simp only [Rel.putL, Rel.dst, z1, z2, z3, z4, Act.put, z5, z6, z7, d1] at hK ⊢
        refine RelG.yes rfl ?_
        go_simp
        exact hK _ _ hi (Below.refl _ _) (hE.same (by decide) (by decide))
      refine RelG.Steps.cons (L := [4, 1]) rfl (by kernel_rfl) ?_ ?_
      · intro vals w' D hE hF hR K hK
        have r4 := hR.1
        have d1 : vals 1 = .bool true := hR.2.1
        simp only [Rel.putL, Rel.dst, z1, z2, z3, z4, Act.put, z5, z6, z7, d1] at hK ⊢
        refine RelG.yes rfl ?_
        go_simp
        go_at_call 106
        refine (denF_any r4 (by have := H.out.2.2.2.2.2.2.1; omega)).mono ?_
        rintro e w2 ⟨v, rfl, hv, hb⟩
        exact hK _ _ hv hb (hE.step hb (by decide) (by decide))
      refine RelG.Steps.cons (L := [3, 5, 1]) rfl (by kernel_rfl) ?_ ?_
      · intro vals w' D hE hF hR K hK
        have r3 := hR.1
        have r5 := hR.2.1
        have d1 : vals 1 = .bool true := hR.2.2.1
        simp only [Rel.putL, Rel.dst, z1, z2, z3, z4, Act.put, z5, z6, z7, d1] at hK ⊢
        refine RelG.yes rfl ?_
        go_simp
        go_at_call 121
        refine (gcd_int (k := 42) r3 r5 (lt_ten _ H.out.2.2.2.2.1) (lt_ten _ H.out.2.2.2.2.2.1) (by omega) (by omega)).mono ?_
        rintro e w2 ⟨v, rfl, hv, hb⟩
        rw [← HG.out.1] at hv
        exact hK _ _ hv hb (hE.step hb (by decide) (by decide))
      refine RelG.Steps.cons (L := [1]) rfl (by kernel_rfl) ?_ ?_
      · intro vals w' D hE hF hR K hK
        have d1 : vals 1 = .bool true := hR.1
        simp only [Rel.putL, Rel.dst, z1, z2, z3, z4, Act.put, z5, z6, z7, d1] at hK ⊢
        refine RelG.yes rfl ?_
        go_simp
        go_at_call 47
        refine (make_any (z := 1) (by decide) (by decide)).mono ?_
        rintro e w2 ⟨v, rfl, hv, hb⟩
        exact hK _ _ hv hb (hE.step hb (by decide) (by decide))
      refine RelG.Steps.cons (L := [6, 7, 1]) rfl (by kernel_rfl) ?_ ?_
      · intro vals w' D hE hF hR K hK
        have r6 := hR.1
        have r7 := hR.2.1
        have d1 : vals 1 = .bool true := hR.2.2.1
        simp only [Rel.putL, Rel.dst, z1, z2, z3, z4, Act.put, z5, z6, z7, d1] at hK ⊢
        refine RelG.yes rfl ?_
        go_simp
        go_at_call 195
        refine (compare_int (k := 42) r6 r7 HG.out.2.1 (by rw [M.B_eq]; decide +kernel) (by omega)).mono ?_
        rintro e w2 ⟨he, hb⟩
        rw [← HG.out.2.2.1] at he
        subst he
        exact hK _ _ rfl hb (hE.step hb (by decide) (by decide))
      refine RelG.Steps.cons (L := [8, 1]) rfl (by kernel_rfl) ?_ ?_
      · intro vals w' D hE hF hR K hK
        have d8 : vals 8 = .int .i64 cg := hR.1
        have d1 : vals 1 = .bool true := hR.2.1
        simp only [Rel.putL, Rel.dst, z1, z2, z3, z4, Act.put, z5, z6, z7, d8, d1] at hK ⊢
        refine RelG.yes rfl ?_
        go_simp
        exact hK _ _ rfl (Below.refl _ _) (hE.same (by decide) (by decide))
      refine RelG.Steps.cons (L := [1, 9]) rfl (by kernel_rfl) ?_ ?_
      · intro vals w' D hE hF hR K hK
        have d1 : vals 1 = .bool true := hR.1
        have d9 : vals 9 = .bool (cg != 0) := hR.2.1
        simp only [Rel.putL, Rel.dst, z1, z2, z3, z4, Act.put, z5, z6, z7, d1, d9] at hK ⊢
        refine RelG.yes rfl ?_
        go_simp
        exact hK _ _ rfl (Below.refl _ _) (hE.same (by decide) (by decide))
      exact RelG.Steps.done
    · intro vals w1 D hD hE hR
      obtain ⟨r0, r1, r2, r3, r4, r5, r6, r7, r8, r9, r10, _⟩ := hR
      have e10 : vals 10 = .bool (cg != 0) := r10
      simp only [Rel.putL, Rel.dst, z1, z2, z3, z4, Act.put, z5, z6, z7, e10]
      have HQ := Lib.hid hE.1
      clear hE hD e10 r0 r1 r2 r3 r4 r5 r6 r7 r8 r9 r10
      go_wp2_with fail
      go_meet
      exact ⟨rfl, HQ.out⟩
  obtain ⟨rfl, hQ⟩ := hcut
  have HQ := Lib.hid hQ
  clear hP hQ
  rw [HG.out.2.2.2]
  by_cases hg : Nat.gcd n.natAbs d.natAbs = 1
  · have HGG := Lib.hid hg
    rw [decide_eq_true hg]
    clear hg
    obtain ⟨s, A, l, c, t, A', l', c', c0, c1, c2, c3, hr⟩ := HQ.out.fr 1 rfl
    obtain ⟨m0, m1, m2, m3, d0, d1, d2, d3, f0, f1, f2, f3⟩ := HQ.out.rhole 0 rfl
    have HR := Lib.hid hr
    clear hr
    go_wp2
    have hF := HQ.out.frstored 0 rfl HR.out
    rw [show (((wc.setCell ⟨w.heap.size, 0, none⟩ (.int .i64 s)).setCell ⟨w.heap.size, 1, none⟩ (.slice A l c)).setCell ⟨w.heap.size, 2, none⟩ (.int .i64 t)).setCell ⟨w.heap.size, 3, none⟩ (.slice A' l' c') = stRat wc w.heap.size s A l c t A' l' c' from rfl]
    generalize stRat wc w.heap.size s A l c t A' l' c' = W3 at *
    obtain ⟨z0, z1, z2, z3, z4, z5⟩ := hF
    exact bodyPost_ret (v := .tuple #[.agg #[.int .i64 s, .slice A l c, .int .i64 t, .slice A' l' c'], .bool true]) (by simp [results, Tryz.results142, go_sem, z0, z1, z2, z3]) rfl ⟨_, by rw [decide_eq_true HGG.out], fun _ => z4, fun h => absurd HGG.out h, z5.1⟩
  · have HGG := Lib.hid hg
    rw [decide_eq_false hg]
    clear hg
    obtain ⟨m0, m1, m2, m3, d0, d1, d2, d3, f0, f1, f2, f3⟩ := HQ.out.rhole 0 rfl
    go_wp2
    have hF := HQ.out.rstored 0 rfl (ratZero_is wc)
    rw [show (((wc.setCell ⟨w.heap.size, 0, none⟩ (.int .i64 0)).setCell ⟨w.heap.size, 1, none⟩ (.slice none 0 0)).setCell ⟨w.heap.size, 2, none⟩ (.int .i64 0)).setCell ⟨w.heap.size, 3, none⟩ (.slice none 0 0) = stRat wc w.heap.size 0 none 0 0 0 none 0 0 from rfl]
    generalize stRat wc w.heap.size 0 none 0 0 0 none 0 0 = W3 at *
    obtain ⟨z0, z1, z2, z3, z4, z5⟩ := hF
    exact bodyPost_ret (v := .tuple #[ratZero, .bool false]) (by simp [results, Tryz.results142, go_sem, z0, z1, z2, z3, ratZero]) rfl ⟨_, by rw [decide_eq_false HGG.out], fun h => absurd h HGG.out, fun _ => rfl, z5.below⟩
set_option linter.unusedSimpArgs false in
set_option maxHeartbeats 4000000 in
set_option maxRecDepth 100000 in
theorem read_int {w : World} (s : ByteArray) {sa sb : ByteArray} {x : Rat} (hm : Lx w) (hsz : s.size < 4294967281) (hc : Lib.cut s.data.toList [47] = (sa.data.toList, sb.data.toList, false)) (ha : sa.data.toList = Lib.itoa x.num) (hs : RatIs s.data.toList x) :
    Calls Tryz.prog 142 #[.string s] w fun e w' => ∃ v, e = .returned (.tuple #[v, .bool true]) ∧ IsRat w' v x ∧ Below w.heap.size w w' := by
  have hva : vld sa.data.toList = true := by rw [ha]; exact vld_itoa hs.2.1
  have H := Lib.hid (And.intro hm (And.intro hc (And.intro hs hva)))
  clear hm hc hs hva ha
  go_enter Tryz.func142, Tryz.ntmps142
  go_upto_region 1 with fail
  have hP := (Pls.start w).newRhole rfl
  generalize w.alloc (.cells #[.int .i64 0, .slice none 0 0, .int .i64 0, .slice none 0 0] 90) = w0 at *
  have HP := Lib.hid hP
  clear hP
  go_wp2_with fail
  refine (cut_any s (H.out.1.below HP.out.below) hsz H.out.2.1).mono ?_
  rintro e w1 ⟨rfl, hb⟩
  have H1 := Lib.hid (HP.out.next hb)
  clear hb
  go_wp2_with fail
  refine (valid_any sa).mono ?_
  rw [H.out.2.2.2]
  rintro e w2 ⟨rfl, rfl⟩
  go_wp2_with fail
  refine (readRat_any s (H.out.1.below H1.out.below) H.out.2.2.1).mono ?_
  rintro e w5 ⟨v, rfl, hv, hb⟩
  obtain ⟨sx, Ax, lx, cx, tx, Ax', lx', cx', rfl⟩ := hv.shape
  have H5 := Lib.hid (And.intro (H1.out.next hb) hv)
  clear hv hb
  go_upto_region 7 with fail
  have hP := H5.out.1.boxRat H5.out.2 rfl
  have hX := H5.out.2.below ((Below.refl _ _).alloc (Nat.le_refl _) (.cells #[.int .i64 sx, .slice Ax lx cx, .int .i64 tx, .slice Ax' lx' cx'] 90))
  generalize hg5 : w5.heap.size = g5 at *
  generalize w5.alloc (.cells #[.int .i64 sx, .slice Ax lx cx, .int .i64 tx, .slice Ax' lx' cx'] 90) = w6 at *
  clear hX hg5
  refine RelG.region_rest 11 [0, 1, 2, 3, 4, 5, 6, 7, 8, 9, 10] _ rfl rfl (R := [fun v _ => v = .bool false, fun v _ => v = .bool false, fun _ _ => True, fun _ _ => True, fun _ _ => True, fun _ _ => True, fun _ _ => True, fun _ _ => True, fun _ _ => True, fun _ _ => True, fun v _ => v = .bool false])
    (E := RE w [(w.heap.size, .rhole), (g5, .rat x)] w6.heap.size 1000 1001) (T := fun w w' => Below w.heap.size w w') (by kernel_rfl) (by kernel_rfl) (by kernel_rfl) (RE.start hP 1000 1001) ?_ ?_ ?_
  · intro D vals i v w1 w2 hi hE hT hv
    match i, hi with
    | 0, _ | 1, _ | 2, _ | 3, _ | 4, _ | 5, _ | 6, _ | 7, _ | 8, _ | 9, _ | 10, _ => exact hv
    | i + 11, hi => exact absurd hi (by omega)
  · refine RelG.Steps.cons (L := []) rfl (by kernel_rfl) ?_ ?_
    · intro vals w' D hE hF hR K hK
      simp only [Rel.putL, Rel.dst, z1, z2, z3, z4, Act.put, z5, z6, z7] at hK ⊢
      refine RelG.yes rfl ?_
      go_simp
      exact hK _ _ rfl (Below.refl _ _) (hE.same (by decide) (by decide))
    refine RelG.Steps.cons (L := [0]) rfl (by kernel_rfl) ?_ ?_
    · intro vals w' D hE hF hR K hK
      have d0 : vals 0 = .bool false := hR.1
      simp only [Rel.putL, Rel.dst, z1, z2, z3, z4, Act.put, z5, z6, z7, d0] at hK ⊢
      refine RelG.yes rfl ?_
      go_simp
      exact hK _ _ rfl (Below.refl _ _) (hE.same (by decide) (by decide))
    refine RelG.Steps.cons (L := [1]) rfl (by kernel_rfl) ?_ ?_
    · intro vals w' D hE hF hR K hK
      have d1 : vals 1 = .bool false := hR.1
      simp only [Rel.putL, Rel.dst, z1, z2, z3, z4, Act.put, z5, z6, z7, d1] at hK ⊢
      refine RelG.no rfl ?_
      exact hK _ _ trivial (Below.refl _ _) (hE.same (by decide) (by decide))
    refine RelG.Steps.cons (L := [2, 1]) rfl (by kernel_rfl) ?_ ?_
    · intro vals w' D hE hF hR K hK
      have d1 : vals 1 = .bool false := hR.2.1
      simp only [Rel.putL, Rel.dst, z1, z2, z3, z4, Act.put, z5, z6, z7, d1] at hK ⊢
      refine RelG.no rfl ?_
      exact hK _ _ trivial (Below.refl _ _) (hE.same (by decide) (by decide))
    refine RelG.Steps.cons (L := [1]) rfl (by kernel_rfl) ?_ ?_
    · intro vals w' D hE hF hR K hK
      have d1 : vals 1 = .bool false := hR.1
      simp only [Rel.putL, Rel.dst, z1, z2, z3, z4, Act.put, z5, z6, z7, d1] at hK ⊢
      refine RelG.no rfl ?_
      exact hK _ _ trivial (Below.refl _ _) (hE.same (by decide) (by decide))
    refine RelG.Steps.cons (L := [4, 1]) rfl (by kernel_rfl) ?_ ?_
    · intro vals w' D hE hF hR K hK
      have d1 : vals 1 = .bool false := hR.2.1
      simp only [Rel.putL, Rel.dst, z1, z2, z3, z4, Act.put, z5, z6, z7, d1] at hK ⊢
      refine RelG.no rfl ?_
      exact hK _ _ trivial (Below.refl _ _) (hE.same (by decide) (by decide))
    refine RelG.Steps.cons (L := [3, 5, 1]) rfl (by kernel_rfl) ?_ ?_
    · intro vals w' D hE hF hR K hK
      have d1 : vals 1 = .bool false := hR.2.2.1
      simp only [Rel.putL, Rel.dst, z1, z2, z3, z4, Act.put, z5, z6, z7, d1] at hK ⊢
      refine RelG.no rfl ?_
      exact hK _ _ trivial (Below.refl _ _) (hE.same (by decide) (by decide))
    refine RelG.Steps.cons (L := [1]) rfl (by kernel_rfl) ?_ ?_
    · intro vals w' D hE hF hR K hK
      have d1 : vals 1 = .bool false := hR.1
      simp only [Rel.putL, Rel.dst, z1, z2, z3, z4, Act.put, z5, z6, z7, d1] at hK ⊢
      refine RelG.no rfl ?_
      exact hK _ _ trivial (Below.refl _ _) (hE.same (by decide) (by decide))
    refine RelG.Steps.cons (L := [6, 7, 1]) rfl (by kernel_rfl) ?_ ?_
    · intro vals w' D hE hF hR K hK
      have d1 : vals 1 = .bool false := hR.2.2.1
      simp only [Rel.putL, Rel.dst, z1, z2, z3, z4, Act.put, z5, z6, z7, d1] at hK ⊢
      refine RelG.no rfl ?_
      exact hK _ _ trivial (Below.refl _ _) (hE.same (by decide) (by decide))
    refine RelG.Steps.cons (L := [8, 1]) rfl (by kernel_rfl) ?_ ?_
    · intro vals w' D hE hF hR K hK
      have d1 : vals 1 = .bool false := hR.2.1
      simp only [Rel.putL, Rel.dst, z1, z2, z3, z4, Act.put, z5, z6, z7, d1] at hK ⊢
      refine RelG.no rfl ?_
      exact hK _ _ trivial (Below.refl _ _) (hE.same (by decide) (by decide))
    refine RelG.Steps.cons (L := [1, 9]) rfl (by kernel_rfl) ?_ ?_
    · intro vals w' D hE hF hR K hK
      have d1 : vals 1 = .bool false := hR.1
      simp only [Rel.putL, Rel.dst, z1, z2, z3, z4, Act.put, z5, z6, z7, d1] at hK ⊢
      refine RelG.yes rfl ?_
      go_simp
      exact hK _ _ rfl (Below.refl _ _) (hE.same (by decide) (by decide))
    exact RelG.Steps.done
  · intro vals w1 D hD hE hR
    obtain ⟨r0, r1, r2, r3, r4, r5, r6, r7, r8, r9, r10, _⟩ := hR
    have e10 : vals 10 = .bool false := r10
    simp only [Rel.putL, Rel.dst, z1, z2, z3, z4, Act.put, z5, z6, z7, e10]
    have HQ := Lib.hid hE.1
    clear hE hD e10 hP r0 r1 r2 r3 r4 r5 r6 r7 r8 r9 r10
    obtain ⟨s, A, l, c, t, A', l', c', c0, c1, c2, c3, hr⟩ := HQ.out.rat 1 rfl
    obtain ⟨m0, m1, m2, m3, d0, d1, d2, d3, f0, f1, f2, f3⟩ := HQ.out.rhole 0 rfl
    have HR := Lib.hid hr
    clear hr
    go_wp2
    have hF := HQ.out.rstored 0 rfl HR.out
    rw [show (((w1.setCell ⟨w.heap.size, 0, none⟩ (.int .i64 s)).setCell ⟨w.heap.size, 1, none⟩ (.slice A l c)).setCell ⟨w.heap.size, 2, none⟩ (.int .i64 t)).setCell ⟨w.heap.size, 3, none⟩ (.slice A' l' c') = stRat w1 w.heap.size s A l c t A' l' c' from rfl]
    generalize stRat w1 w.heap.size s A l c t A' l' c' = W3 at *
    obtain ⟨z0, z1, z2, z3, z4, z5⟩ := hF
    exact bodyPost_ret (v := .tuple #[.agg #[.int .i64 s, .slice A l c, .int .i64 t, .slice A' l' c'], .bool true]) (by simp [results, Tryz.results142, go_sem, z0, z1, z2, z3]) rfl ⟨_, rfl, z4, z5.below⟩
end Go.Proofs.YtjghgbfagjhdgaaGreatDoor
