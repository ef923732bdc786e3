/- Read, integer.read. -/
import Derived.Test.YthnbocojjllfaaaGreatDoorRead
import Derived.Test.YthnbocojjllfaaaGreatDoorAtoi
namespace Go.Proofs.YthnbocojjllfaaaGreatDoor
open Go Go.RowKit

theorem cut_minus {w : World} (s : ByteArray) {neg : Bool} {d : List UInt8} (h1 : Lib.hasPrefix s.data.toList [45] = neg) (h2 : Lib.trimPrefix s.data.toList [45] = d) :
    Calls Tryz.prog 179 #[.string s, .string ⟨#[45]⟩] w fun e w' => e = .returned (.tuple #[.string ⟨d.toArray⟩, .bool neg]) ∧ w = w' := by
  subst h1 h2
  refine (Tryz.strings_CutPrefix s ⟨#[45]⟩ w).mono ?_
  rintro e w1 ⟨rfl, rfl⟩
  exact ⟨rfl, rfl⟩
theorem trim_minus {w : World} (s : ByteArray) {d : List UInt8} (h2 : Lib.trimPrefix s.data.toList [45] = d) :
    Calls Tryz.prog 81 #[.string s, .string ⟨#[45]⟩] w fun e w' => e = .returned (.string ⟨d.toArray⟩) ∧ w = w' := by
  subst h2
  refine (Tryz.strings_TrimPrefix s ⟨#[45]⟩ w).mono ?_
  rintro e w1 ⟨rfl, rfl⟩
  exact ⟨rfl, rfl⟩

theorem atoi_z {w : World} (s : ByteArray) {z : Int} (hs : s.data.toList = Lib.itoa z) (h0 : -9223372036854775808 ≤ z) (h1 : z ≤ 9223372036854775807) (hl : s.size ≤ 1000) :
    Calls Tryz.prog 86 #[.string s] w fun e w' => e = .returned (.tuple #[.int .i64 z, .nilIface]) ∧ Below w.heap.size w w' := by
  refine (Tryz.strconv_Atoi_ok s (by omega) z (by rw [hs]; exact atoi_itoa h0 h1) w).mono ?_
  rintro e w' ⟨rfl, h⟩
  refine ⟨rfl, ?_⟩
  rcases h with rfl | ⟨t, rfl⟩
  · exact Below.refl _ _
  · exact bytesWorld_below _ _ _
theorem itoa_size (z : Int) : (Lib.itoa z).length = Lib.nDigits z.natAbs + (if z < 0 then 1 else 0) := by
  by_cases h : z < 0
  · rw [T.itoa_neg h, if_pos h, List.length_cons, Lib.decDigits_length]
  · rw [T.itoa_nonneg h, if_neg h, Lib.decDigits_length]; rfl
theorem short_text {s : ByteArray} {z : Int} (hs : s.data.toList = Lib.itoa z) (h : s.size ≤ 18) : z.natAbs ≤ 4611686018427387903 := by
  have h1 := itoa_size z
  rw [← hs, ← Lib.size_eq] at h1
  have h2 := Lib.lt_pow_nDigits z.natAbs
  have h3 := Nat.pow_le_pow_right (n := 10) (by decide) (show Lib.nDigits z.natAbs ≤ 18 by split at h1 <;> omega)
  have h4 : (10 : Nat) ^ 18 = 1000000000000000000 := by decide
  omega

set_option maxHeartbeats 800000 in
theorem wide_read_short {w : World} (s : ByteArray) {z : Int} (hs : s.data.toList = Lib.itoa z) (h18 : s.size ≤ 18) :
    Calls Tryz.prog 156 #[.string s] w fun e w' => ∃ v, e = .returned v ∧ IsInt w' v z ∧ Below w.heap.size w w' := by
  have hz := short_text hs h18
  have HA := Lib.hid (fun w => atoi_z (w := w) s hs (by omega) (by omega) (by omega))
  have HZ := Lib.hid hz
  have hR0 := Res.new w
  have hb0 : Below w.heap.size w (w.alloc (.cells #[.int .i64 0, .slice none 0 0] 81)) := (Below.refl _ _).alloc (Nat.le_refl _) _
  clear hs hz
  go_enter Tryz.func156, Tryz.ntmps156
  go_wp2_with fail
  generalize w.alloc (.cells #[.int .i64 0, .slice none 0 0] 81) = w0 at *
  have HR := Lib.hid (And.intro hR0 hb0)
  clear hR0 hb0
  refine (HA.out _).mono ?_
  rintro e w1 ⟨rfl, hb1⟩
  have hR2 := HR.out.1.next hb1 HR.out.1.lt
  have hb2 : Below w.heap.size w w1 := HR.out.2.trans (hb1.mono HR.out.2.size)
  obtain ⟨v0, c0⟩ := hR2.c0
  obtain ⟨v1, c1⟩ := hR2.c1
  have f0 := hR2.f0
  have f1 := hR2.f1
  have HF := Lib.hid (And.intro (hR2.put0 z none 0 0) (And.intro (hR2.put1 z none 0 0) (setInt_below hb2 (Nat.le_refl _) z none 0 0)))
  clear hR2 hb2 hb1
  go_wp2
  rw [show (w1.setCell ⟨w.heap.size, 0, none⟩ (.int .i64 z)).setCell ⟨w.heap.size, 1, none⟩ (.slice none 0 0) = setInt w1 w.heap.size z none 0 0 from rfl]
  obtain ⟨z0, z1, z2⟩ := HF.out
  generalize setInt w1 w.heap.size z none 0 0 = W3 at *
  exact bodyPost_ret (v := .agg #[.int .i64 z, .slice none 0 0]) (by simp [results, Tryz.results156, go_sem, z0, z1]) rfl ⟨_, rfl, IsInt.short _ HZ.out, z2⟩

set_option maxHeartbeats 800000 in
theorem wide_read_long {w : World} (s : ByteArray) (neg : Bool) (d : List UInt8) {k : Nat} (h1 : Lib.hasPrefix s.data.toList [45] = neg) (h2 : Lib.trimPrefix s.data.toList [45] = d) (hd : ∀ c ∈ d, T.digit c = true) (hl : d.length ≤ 60000) (h18 : ¬ s.size ≤ 18) (hlt : T.num d < M.B ^ k) (hk : k ≤ 60000) :
    Calls Tryz.prog 156 #[.string s] w fun e w' => ∃ v, e = .returned v ∧ IsInt w' v (withSign neg (T.num d)) ∧ Below w.heap.size w w' := by
  have hR0 := Res.new w
  have hb0 : Below w.heap.size w (w.alloc (.cells #[.int .i64 0, .slice none 0 0] 81)) := (Below.refl _ _).alloc (Nat.le_refl _) _
  obtain ⟨r, hr⟩ : ∃ r, r = wrd (withSign neg (T.num d)) := ⟨_, rfl⟩
  have H := Lib.hid (And.intro hr (And.intro hd (And.intro h1 h2)))
  have h18' : ¬ (s.size : Int) ≤ 18 := by omega
  clear hr hd h1 h2 h18
  go_enter Tryz.func156, Tryz.ntmps156
  go_wp2_with fail
  generalize w.alloc (.cells #[.int .i64 0, .slice none 0 0] 81) = w0 at *
  have HR := Lib.hid (And.intro hR0 hb0)
  clear hR0 hb0
  refine (cut_minus s H.out.2.2.1 H.out.2.2.2).mono ?_
  rintro e w1 ⟨rfl, rfl⟩
  go_wp2_with fail
  refine (readNatural_any ⟨d.toArray⟩ (by simpa using H.out.2.1) (by simpa [ByteArray.size] using hl)).mono ?_
  rintro e w1 ⟨v, rfl, hv, hb1⟩
  rw [show (⟨d.toArray⟩ : ByteArray).data.toList = d by simp] at hv
  obtain ⟨A, l, c, rfl⟩ := hv.shape
  have HV := Lib.hid (And.intro hv hb1)
  clear hv hb1
  go_wp2_with fail
  refine (signed_any neg HV.out.1 hlt hk).mono ?_
  rintro e w2 ⟨v, rfl, hv, hb2⟩
  obtain ⟨A, l, c, rfl, hz⟩ := hv.shape_s H.out.1
  have hR2 := (HR.out.1.next HV.out.2 HR.out.1.lt).next hb2 (Nat.lt_of_lt_of_le HR.out.1.lt HV.out.2.size)
  have hb3 : Below w.heap.size w w2 := (HR.out.2.trans (HV.out.2.mono HR.out.2.size)).trans (hb2.mono (Nat.le_trans HR.out.2.size HV.out.2.size))
  obtain ⟨v0, c0⟩ := hR2.c0
  obtain ⟨v1, c1⟩ := hR2.c1
  have f0 := hR2.f0
  have f1 := hR2.f1
  have HF := Lib.hid (And.intro (hR2.put0 r A l c) (And.intro (hR2.put1 r A l c) (And.intro (hR2.size hz r A l c) (setInt_below hb3 (Nat.le_refl _) r A l c))))
  clear hR2 hb2 hb3 hz hv
  go_wp2
  rw [show (w2.setCell ⟨w.heap.size, 0, none⟩ (.int .i64 r)).setCell ⟨w.heap.size, 1, none⟩ (.slice A l c) = setInt w2 w.heap.size r A l c from rfl]
  obtain ⟨z0, z1, z2, z3⟩ := HF.out
  generalize setInt w2 w.heap.size r A l c = W3 at *
  exact bodyPost_ret (v := .agg #[.int .i64 r, .slice A l c]) (by simp [results, Tryz.results156, go_sem, z0, z1]) rfl ⟨_, rfl, ⟨A, l, c, by rw [H.out.1], z2⟩, z3⟩
theorem nine_pow (n : Nat) : 10 ^ n < M.B ^ (n / 9 + 1) := by
  have h1 : n < 9 * (n / 9 + 1) := by omega
  have h2 : (10 : Nat) ^ n < 10 ^ (9 * (n / 9 + 1)) := Nat.pow_lt_pow_right (by decide) h1
  have h3 : (10 : Nat) ^ (9 * (n / 9 + 1)) ≤ M.B ^ (n / 9 + 1) := by
    rw [Nat.pow_mul]
    exact Nat.pow_le_pow_left (by rw [M.B_eq]; decide) _
  omega
/-- Reading the text of a number. -/
theorem wide_read {w : World} (s : ByteArray) {z : Int} (hs : s.data.toList = Lib.itoa z) (hl : Lib.nDigits z.natAbs ≤ 60000) :
    Calls Tryz.prog 156 #[.string s] w fun e w' => ∃ v, e = .returned v ∧ IsInt w' v z ∧ Below w.heap.size w w' := by
  by_cases h18 : s.size ≤ 18
  · exact wide_read_short s hs h18
  · have h := wide_read_long (w := w) s (decide (z < 0)) (Lib.decDigits z.natAbs) (k := Lib.nDigits z.natAbs / 9 + 1) (by rw [hs, T.itoa_prefix]) (by rw [hs, T.itoa_trim]) (T.decDigits_digit _) (by rw [Lib.decDigits_length]; exact hl) h18
      (by rw [T.num_decDigits]; exact Nat.lt_trans (Lib.lt_pow_nDigits _) (nine_pow _)) (by omega)
    have e : withSign (decide (z < 0)) (T.num (Lib.decDigits z.natAbs)) = z := by
      rw [T.num_decDigits]; unfold withSign; split <;> simp_all <;> omega
    rw [e] at h
    exact h
set_option maxHeartbeats 800000 in
theorem read_any {w : World} (s : ByteArray) {z : Int} (hs : s.data.toList = Lib.itoa z) (hl : Lib.nDigits z.natAbs ≤ 60000) :
    Calls Tryz.prog 98 #[.string s] w fun e w' => ∃ v, e = .returned v ∧ IsInt w' v z ∧ Below w.heap.size w w' := by
  have hR0 := Res.new w
  have hb0 : Below w.heap.size w (w.alloc (.cells #[.int .i64 0, .slice none 0 0] 81)) := (Below.refl _ _).alloc (Nat.le_refl _) _
  obtain ⟨r, hr⟩ : ∃ r, r = wrd z := ⟨_, rfl⟩
  have H := Lib.hid (And.intro (fun w => wide_read (w := w) s hs hl) hr)
  clear hs hl hr
  go_enter Tryz.func98, Tryz.ntmps98
  go_wp2_with fail
  generalize w.alloc (.cells #[.int .i64 0, .slice none 0 0] 81) = w0 at *
  have HR := Lib.hid (And.intro hR0 hb0)
  clear hR0 hb0
  refine (H.out.1 _).mono ?_
  rintro e w2 ⟨v, rfl, hv, hb2⟩
  obtain ⟨A, l, c, rfl, hz⟩ := hv.shape_s H.out.2
  have hR2 := HR.out.1.next hb2 HR.out.1.lt
  have hb3 : Below w.heap.size w w2 := HR.out.2.trans (hb2.mono HR.out.2.size)
  obtain ⟨v0, c0⟩ := hR2.c0
  obtain ⟨v1, c1⟩ := hR2.c1
  have f0 := hR2.f0
  have f1 := hR2.f1
  have HF := Lib.hid (And.intro (hR2.put0 r A l c) (And.intro (hR2.put1 r A l c) (And.intro (hR2.size hz r A l c) (setInt_below hb3 (Nat.le_refl _) r A l c))))
  clear hR2 hb2 hb3 hz hv
  go_wp2
  rw [show (w2.setCell ⟨w.heap.size, 0, none⟩ (.int .i64 r)).setCell ⟨w.heap.size, 1, none⟩ (.slice A l c) = setInt w2 w.heap.size r A l c from rfl]
  obtain ⟨z0, z1, z2, z3⟩ := HF.out
  generalize setInt w2 w.heap.size r A l c = W3 at *
  exact bodyPost_ret (v := .agg #[.int .i64 r, .slice A l c]) (by simp [results, Tryz.results98, go_sem, z0, z1]) rfl ⟨_, rfl, ⟨A, l, c, by rw [H.out.2], z2⟩, z3⟩
end Go.Proofs.YthnbocojjllfaaaGreatDoor
