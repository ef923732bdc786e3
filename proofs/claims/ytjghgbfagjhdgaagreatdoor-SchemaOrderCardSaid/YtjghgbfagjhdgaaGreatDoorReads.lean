/- Atoi reads what Itoa writes. readNatural, Read, signed texts. Read, integer.read. -/
import Derived.Test.YtjghgbfagjhdgaaGreatDoorPure
import Derived.Lib.AtoiAll
import Derived.Test.YtjghgbfagjhdgaaGreatDoorOwns
import Derived.Test.YtjghgbfagjhdgaaGreatDoorShelf
import Derived.Test.YtjghgbfagjhdgaaGreatDoorInts
namespace Go.Proofs.YtjghgbfagjhdgaaGreatDoor
open Go

theorem parse_num : ∀ (l : List UInt8) (acc : Nat), (∀ c ∈ l, T.digit c = true) → T.numA acc l ≤ 9223372036854775808 → Lib.parseUint10 acc l = .ok (T.numA acc l)
  | [], acc, _, _ => by simp [Lib.parseUint10, T.numA]
  | c :: l, acc, h, hb => by
    have hd := T.digit_iff.1 (h c (List.mem_cons_self ..))
    have ih := parse_num l (acc * 10 + (c.toNat - 48)) (fun x hx => h x (List.mem_cons_of_mem _ hx))
    rw [T.numA_cons] at hb ⊢
    have hm : acc * 10 + (c.toNat - 48) ≤ T.numA (acc * 10 + (c.toNat - 48)) l := by
      rw [T.numA_eq l (acc * 10 + (c.toNat - 48))]
      have := Nat.le_mul_of_pos_right (acc * 10 + (c.toNat - 48)) (Nat.pow_pos (n := l.length) (show 0 < 10 by decide))
      omega
    rw [Lib.parseUint10, if_pos hd, if_neg (by omega), if_neg (by omega)]
    exact ih hb
theorem mag_dec {u : Nat} (h : u ≤ 9223372036854775808) : Lib.parseMag (Lib.decDigits u) = .ok u := by
  have e := T.num_decDigits u
  unfold T.num at e
  have hp := parse_num (Lib.decDigits u) 0 (T.decDigits_digit u) (by rw [e]; exact h)
  rw [e] at hp
  unfold Lib.parseMag
  rw [if_neg (T.decDigits_ne u)]
  exact hp
theorem atoi_itoa {n : Int} (h0 : -9223372036854775808 ≤ n) (h1 : n ≤ 9223372036854775807) : Lib.atoiAll (Lib.itoa n) = .ok n := by
  by_cases hn : n < 0
  · rw [T.itoa_neg hn]
    unfold Lib.atoiAll
    have e : (45 : UInt8).toNat = 45 := rfl
    simp only [e]
    rw [if_pos (Or.inr trivial), mag_dec (by omega)]
    simp only
    rw [if_neg (by simp), if_neg (by omega)]
    simp
    try omega
  · rw [T.itoa_nonneg hn]
    have hm := mag_dec (show n.natAbs ≤ 9223372036854775808 by omega)
    have hdg := T.decDigits_digit n.natAbs
    cases hc : Lib.decDigits n.natAbs with
    | nil => exact absurd hc (T.decDigits_ne _)
    | cons c r =>
      rw [hc] at hm hdg
      have h3 := T.digit_iff.1 (hdg c (List.mem_cons_self ..))
      unfold Lib.atoiAll
      simp only
      rw [if_neg (by omega), hm]
      simp only
      rw [if_neg (by omega), if_neg (by omega), if_neg (by omega)]
      congr 1
      omega
end Go.Proofs.YtjghgbfagjhdgaaGreatDoor
namespace Go.Proofs.YtjghgbfagjhdgaaGreatDoor
open Go Go.RowKit

theorem make_room (n : Nat) (hn : n ≤ 4611686018427387904 / 65536) (w : World) :
    (Instr.makeSlice 75 (.int .i64 0) (.int .i64 (n : Int))).run Tryz.prog w = .ok (.slice (some ⟨w.heap.size, 0, none⟩) 0 n) (w.alloc (.cells (madeCells #[.int .u32 0] n) 193)) := by
  obtain ⟨i, hi, hz, hs, hb⟩ := info_parts info32
  have h := run_make (P := Tryz.prog) w 75 193 i _ Tryz.underlying75 hi hz .i64 .i64 0 n (by omega) (by omega) (by rw [hb]; omega) (by omega)
  rw [hs] at h
  simpa [Value.cells] using h
theorem own_new (w : World) (n : Nat) (hn : n ≤ maxLen) : Own (w.alloc (.cells (madeCells #[.int .u32 0] n) 193)) w.heap.size 0 n 0 :=
  ⟨World.ownsRow_made w (madeCells #[.int .u32 0] n) n (Nat.le_refl _) hn (by simp [madeCells]), by simp⟩

theorem bytesWorld_below (w : World) (e : TypeId) (s : ByteArray) : Below w.heap.size w (Lib.bytesWorld w e s) := by
  have hb : Below w.heap.size w (w.drew.alloc (.cells (Lib.bytesCells w e s) e)) := ((Below.refl _ _).drew).alloc (Nat.le_refl _) _
  refine ⟨hb.os, hb.tape, hb.output, ?_, fun k hk => ?_⟩
  · show w.heap.size ≤ ((w.drew.alloc (.cells (Lib.bytesCells w e s) e)).heap.modify w.heap.size _).size
    rw [Array.size_modify]
    exact hb.size
  · rw [← hb.block k hk]
    show ((w.drew.alloc (.cells (Lib.bytesCells w e s) e)).heap.modify w.heap.size _)[k]? = _
    rw [Array.getElem?_modify, if_neg (by omega)]
theorem parse_chunk {w : World} (s : ByteArray) (hd : ∀ c ∈ s.data.toList, T.digit c = true) (h0 : 0 < s.size) (h9 : s.size ≤ 9) :
    Calls Tryz.prog 257 #[.string s, .int .i64 10, .int .i64 32] w fun e w' => e = .returned (.tuple #[.int .u64 (T.num s.data.toList : Int), .nilIface]) ∧ Below w.heap.size w w' := by
  have hl : s.data.toList.length = s.size := (Lib.size_eq s).symm
  refine (Tryz.strconv_ParseUint_10_at32_ok s (by omega) _ (T.parse32 hd (by intro e; rw [e] at hl; simp at hl; omega) (by omega)) w).mono ?_
  rintro e w' ⟨rfl, h⟩
  refine ⟨rfl, ?_⟩
  rcases h with rfl | rfl
  · exact Below.refl _ _
  · exact bytesWorld_below _ _ _
theorem num_chunk {done c : List UInt8} {x : Nat} (hx : x = T.num done) (h : done = [] ∨ c.length = 9) : x * 1000000000 + T.num c = T.num (done ++ c) := by
  rw [T.num_append, hx]
  rcases h with rfl | h
  · simp [T.num, T.numA]
  · rw [h]

def strLen : Value → Nat | .string s => s.size | _ => 0
set_option maxHeartbeats 800000 in
set_option maxRecDepth 100000 in
theorem readNatural_any {w : World} (s : ByteArray) (hd : ∀ c ∈ s.data.toList, T.digit c = true) (hl : s.size ≤ 60000) :
    Calls Tryz.prog 242 #[.string s] w fun e w' => ∃ v, e = .returned v ∧ IsNat w' v (T.num s.data.toList) ∧ Below w.heap.size w w' := by
  have hmk := make_room (s.size / 9 + 1) (by omega)
  rw [show ((s.size / 9 + 1 : Nat) : Int) = (s.size : Int) / 9 + 1 by omega] at hmk
  go_enter Tryz.func242, Tryz.ntmps242
  go_wp2_with fail
  have ho := own_new w (s.size / 9 + 1) (by unfold maxLen; omega)
  have hb0 : Below w.heap.size w (w.alloc (.cells (madeCells #[.int .u32 0] (s.size / 9 + 1)) 193)) := (Below.refl _ _).alloc (Nat.le_refl _) _
  clear hmk
  generalize w.alloc (.cells (madeCells #[.int .u32 0] (s.size / 9 + 1)) 193) = w0 at *
  have H := Lib.hid (And.intro ho (And.intro hb0 hd))
  clear ho hb0 hd
  go_loopw [0, 3] (fun sv xv wr => ∃ (d : ByteArray) (L x : Nat) (done : List UInt8), sv = .string d ∧ xv = .slice (some ⟨w.heap.size, 0, none⟩) L (s.size / 9 + 1) ∧ Own wr w.heap.size L (s.size / 9 + 1) x ∧ (L = 0 ∨ M.B ^ (L - 1) ≤ x) ∧
      Below w.heap.size w wr ∧ s.data.toList = done ++ d.data.toList ∧ x = T.num done ∧ d.size ≤ s.size ∧ (done = [] ∨ d.size % 9 = 0) ∧ L + (d.size + 8) / 9 ≤ (s.size + 8) / 9) (fun sv _ _ => strLen sv)
  case atStart => exact ⟨s, 0, 0, [], rfl, rfl, H.out.1, .inl rfl, H.out.2.1, rfl, by simp [T.num, T.numA], Nat.le_refl _, .inl rfl, by omega⟩
  case round =>
    obtain ⟨d, L, x, done, rfl, rfl, ho, hn, hb, hs, hx, hle, h9, hL⟩ := hrel
    by_cases h0 : d.size = 0
    · have hdn : d.data.toList = [] := List.eq_nil_of_length_eq_zero (by rw [← Lib.size_eq]; exact h0)
      rw [hdn, List.append_nil] at hs
      have HN : IsNat wr (.slice (some ⟨w.heap.size, 0, none⟩) L (s.size / 9 + 1)) (T.num s.data.toList) := ⟨_, L, _, rfl, by rw [hs, ← hx]; exact ho.limbs, by rw [hs, ← hx]; exact hn, by omega, by omega⟩
      have HR := Lib.hid (And.intro HN hb)
      clear ho hn hb hs hx h9 hdn HN
      go_wp2
      go_ret
      exact ⟨_, rfl, HR.out.1, HR.out.2⟩
    · have hk1 : (d.size - 1) % 9 + 1 ≤ d.size := by have := Nat.mod_le (d.size - 1) 9; omega
      have hk9 : (d.size - 1) % 9 + 1 ≤ 9 := by omega
      have hdl : d.data.toList.length = d.size := (Lib.size_eq d).symm
      have e1 : (d.extract 0 ((d.size - 1) % 9 + 1)).data.toList = d.data.toList.take ((d.size - 1) % 9 + 1) := by simp
      have e2 : (d.extract ((d.size - 1) % 9 + 1) d.size).data.toList = d.data.toList.drop ((d.size - 1) % 9 + 1) := by simp [List.take_of_length_le, hdl]
      have s1 : (d.extract 0 ((d.size - 1) % 9 + 1)).size = (d.size - 1) % 9 + 1 := by simp; omega
      have s2 : (d.extract ((d.size - 1) % 9 + 1) d.size).size = d.size - ((d.size - 1) % 9 + 1) := by simp
      have hcd : ∀ c ∈ (d.extract 0 ((d.size - 1) % 9 + 1)).data.toList, T.digit c = true := by
        intro c hc
        rw [e1] at hc
        exact H.out.2.2 c (by rw [hs]; exact List.mem_append_right _ (List.mem_of_mem_take hc))
      have hlt := T.num_lt _ hcd
      have hlen : (d.extract 0 ((d.size - 1) % 9 + 1)).data.toList.length ≤ 9 := by rw [e1, List.length_take]; omega
      have hlt9 : T.num (d.extract 0 ((d.size - 1) % 9 + 1)).data.toList ≤ 4294967295 := by
        have := Nat.pow_le_pow_right (n := 10) (by decide) hlen
        omega
      have hval : x * 1000000000 + T.num (d.extract 0 ((d.size - 1) % 9 + 1)).data.toList = T.num (done ++ (d.extract 0 ((d.size - 1) % 9 + 1)).data.toList) :=
        num_chunk hx (by
          rcases h9 with h9 | h9
          · exact .inl h9
          · right; rw [e1, List.length_take]; omega)
      have hsp : s.data.toList = (done ++ (d.extract 0 ((d.size - 1) % 9 + 1)).data.toList) ++ (d.extract ((d.size - 1) % 9 + 1) d.size).data.toList := by
        rw [e1, e2, List.append_assoc, List.take_append_drop]; exact hs
      have HR := Lib.hid (And.intro ho (And.intro hn (And.intro hb (And.intro hsp (And.intro hval (And.intro hcd (And.intro s1 (And.intro s2 hlt9))))))))
      have hroom : L < s.size / 9 + 1 := by omega
      clear ho hn hb hs hx h9 hdl e1 e2 s1 s2 hcd hlt hlen hval hsp
      obtain ⟨c, hc⟩ : ∃ c, c = T.num (d.extract 0 ((d.size - 1) % 9 + 1)).data.toList := ⟨_, rfl⟩
      rw [← hc] at hlt9
      have HC := Lib.hid hc
      clear hc
      go_wp2_with fail
      refine (parse_chunk _ HR.out.2.2.2.2.2.1 (by rw [HR.out.2.2.2.2.2.2.1]; omega) (by rw [HR.out.2.2.2.2.2.2.1]; omega)).mono ?_
      rw [← HC.out]
      rintro e w1 ⟨rfl, hb1⟩
      go_wp2_with fail
      refine (scaleAdd_any (n := x) (f := 1000000000) (s := c) (HR.out.1.below hb1 HR.out.1.lt) hroom (by decide) hlt9 (by omega)).mono ?_
      rintro e w2 ⟨L', rfl, ho2, hg2, hL1, hL2, hnn⟩
      go_wp2
      go_roundw
      case rel =>
        refine ⟨_, L', x * 1000000000 + c, _, rfl, rfl, ho2, ?_, ?_, HR.out.2.2.2.1, by rw [HC.out]; exact HR.out.2.2.2.2.1, ?_, .inr ?_, ?_⟩
        · rcases hnn with rfl | h
          · rcases HR.out.2.1 with h | h
            · exact .inl h
            · right; omega
          · have := M.pow_mono (show L' - 1 ≤ L by omega)
            right; omega
        · exact (HR.out.2.2.1.trans (hb1.mono (HR.out.2.2.1.size))).grown hg2 (Nat.le_trans HR.out.2.2.1.size hb1.size) (by intro k hk; injection hk with hk; omega)
        · rw [HR.out.2.2.2.2.2.2.2.1]; omega
        · rw [HR.out.2.2.2.2.2.2.2.1]; omega
        · rw [HR.out.2.2.2.2.2.2.2.1]; omega
      case measure =>
        show strLen (.string _) < strLen (.string _)
        simp only [strLen]
        rw [HR.out.2.2.2.2.2.2.2.1]; omega
end Go.Proofs.YtjghgbfagjhdgaaGreatDoor
namespace Go.Proofs.YtjghgbfagjhdgaaGreatDoor
open Go Go.RowKit

theorem cut_minus {w : World} (s : ByteArray) {neg : Bool} {d : List UInt8} (h1 : Lib.hasPrefix s.data.toList [45] = neg) (h2 : Lib.trimPrefix s.data.toList [45] = d) :
    Calls Tryz.prog 241 #[.string s, .string ⟨#[45]⟩] w fun e w' => e = .returned (.tuple #[.string ⟨d.toArray⟩, .bool neg]) ∧ w = w' := by
  subst h1 h2
  refine (Tryz.strings_CutPrefix s ⟨#[45]⟩ w).mono ?_
  rintro e w1 ⟨rfl, rfl⟩
  exact ⟨rfl, rfl⟩
theorem trim_minus {w : World} (s : ByteArray) {d : List UInt8} (h2 : Lib.trimPrefix s.data.toList [45] = d) :
    Calls Tryz.prog 215 #[.string s, .string ⟨#[45]⟩] w fun e w' => e = .returned (.string ⟨d.toArray⟩) ∧ w = w' := by
  subst h2
  refine (Tryz.strings_TrimPrefix s ⟨#[45]⟩ w).mono ?_
  rintro e w1 ⟨rfl, rfl⟩
  exact ⟨rfl, rfl⟩

theorem atoi_z {w : World} (s : ByteArray) {z : Int} (hs : s.data.toList = Lib.itoa z) (h0 : -9223372036854775808 ≤ z) (h1 : z ≤ 9223372036854775807) (hl : s.size ≤ 1000) :
    Calls Tryz.prog 221 #[.string s] w fun e w' => e = .returned (.tuple #[.int .i64 z, .nilIface]) ∧ Below w.heap.size w w' := by
  refine (Tryz.strconv_Atoi_ok s (by omega) z (by rw [hs]; exact atoi_itoa h0 h1) w).mono ?_
  rintro e w' ⟨rfl, h⟩
  refine ⟨rfl, ?_⟩
  rcases h with rfl | ⟨t, rfl⟩
  · exact Below.refl _ _
  · exact bytesWorld_below _ _ _
theorem itoa_size (z : Int) : (Lib.itoa z).length = Lib.nDigits z.natAbs + (if z < 0 then 1 else 0) := by
  by_cases h : z < 0
  · rw [T.itoa_neg h, if_pos h, List.length_cons, Lib.decDigits_length]
  · rw [T.itoa_nonneg h, if_neg h, Lib.decDigits_length]; rfl
theorem short_text {s : ByteArray} {z : Int} (hs : s.data.toList = Lib.itoa z) (h : s.size ≤ 18) : z.natAbs ≤ 4611686018427387903 := by
  have h1 := itoa_size z
  rw [← hs, ← Lib.size_eq] at h1
  have h2 := Lib.lt_pow_nDigits z.natAbs
  have h3 := Nat.pow_le_pow_right (n := 10) (by decide) (show Lib.nDigits z.natAbs ≤ 18 by split at h1 <;> omega)
  have h4 : (10 : Nat) ^ 18 = 1000000000000000000 := by decide
  omega

set_option maxHeartbeats 800000 in
theorem wide_read_short {w : World} (s : ByteArray) {z : Int} (hs : s.data.toList = Lib.itoa z) (h18 : s.size ≤ 18) :
    Calls Tryz.prog 220 #[.string s] w fun e w' => ∃ v, e = .returned v ∧ IsInt w' v z ∧ Below w.heap.size w w' := by
  have hz := short_text hs h18
  have HA := Lib.hid (fun w => atoi_z (w := w) s hs (by omega) (by omega) (by omega))
  have HZ := Lib.hid hz
  have hR0 := Res.new w
  have hb0 : Below w.heap.size w (w.alloc (.cells #[.int .i64 0, .slice none 0 0] 77)) := (Below.refl _ _).alloc (Nat.le_refl _) _
  clear hs hz
  go_enter Tryz.func220, Tryz.ntmps220
  go_wp2_with fail
  generalize w.alloc (.cells #[.int .i64 0, .slice none 0 0] 77) = w0 at *
  have HR := Lib.hid (And.intro hR0 hb0)
  clear hR0 hb0
  refine (HA.out _).mono ?_
  rintro e w1 ⟨rfl, hb1⟩
  have hR2 := HR.out.1.next hb1 HR.out.1.lt
  have hb2 : Below w.heap.size w w1 := HR.out.2.trans (hb1.mono HR.out.2.size)
  obtain ⟨v0, c0⟩ := hR2.c0
  obtain ⟨v1, c1⟩ := hR2.c1
  have f0 := hR2.f0
  have f1 := hR2.f1
  have HF := Lib.hid (And.intro (hR2.put0 z none 0 0) (And.intro (hR2.put1 z none 0 0) (setInt_below hb2 (Nat.le_refl _) z none 0 0)))
  clear hR2 hb2 hb1
  go_wp2
  rw [show (w1.setCell ⟨w.heap.size, 0, none⟩ (.int .i64 z)).setCell ⟨w.heap.size, 1, none⟩ (.slice none 0 0) = setInt w1 w.heap.size z none 0 0 from rfl]
  obtain ⟨z0, z1, z2⟩ := HF.out
  generalize setInt w1 w.heap.size z none 0 0 = W3 at *
  exact bodyPost_ret (v := .agg #[.int .i64 z, .slice none 0 0]) (by simp [results, Tryz.results220, go_sem, z0, z1]) rfl ⟨_, rfl, IsInt.short _ HZ.out, z2⟩

set_option maxHeartbeats 800000 in
theorem wide_read_long {w : World} (s : ByteArray) (neg : Bool) (d : List UInt8) {k : Nat} (h1 : Lib.hasPrefix s.data.toList [45] = neg) (h2 : Lib.trimPrefix s.data.toList [45] = d) (hd : ∀ c ∈ d, T.digit c = true) (hl : d.length ≤ 60000) (h18 : ¬ s.size ≤ 18) (hlt : T.num d < M.B ^ k) (hk : k ≤ 60000) :
    Calls Tryz.prog 220 #[.string s] w fun e w' => ∃ v, e = .returned v ∧ IsInt w' v (withSign neg (T.num d)) ∧ Below w.heap.size w w' := by
  have hR0 := Res.new w
  have hb0 : Below w.heap.size w (w.alloc (.cells #[.int .i64 0, .slice none 0 0] 77)) := (Below.refl _ _).alloc (Nat.le_refl _) _
  obtain ⟨r, hr⟩ : ∃ r, r = wrd (withSign neg (T.num d)) := ⟨_, rfl⟩
  have H := Lib.hid (And.intro hr (And.intro hd (And.intro h1 h2)))
  have h18' : ¬ (s.size : Int) ≤ 18 := by omega
  clear hr hd h1 h2 h18
  go_enter Tryz.func220, Tryz.ntmps220
  go_wp2_with fail
  generalize w.alloc (.cells #[.int .i64 0, .slice none 0 0] 77) = w0 at *
  have HR := Lib.hid (And.intro hR0 hb0)
  clear hR0 hb0
  refine (cut_minus s H.out.2.2.1 H.out.2.2.2).mono ?_
  rintro e w1 ⟨rfl, rfl⟩
  go_wp2_with fail
  refine (readNatural_any ⟨d.toArray⟩ (by simpa using H.out.2.1) (by simpa [ByteArray.size] using hl)).mono ?_
  rintro e w1 ⟨v, rfl, hv, hb1⟩
  rw [show (⟨d.toArray⟩ : ByteArray).data.toList = d by simp] at hv
  obtain ⟨A, l, c, rfl⟩ := hv.shape
  have HV := Lib.hid (And.intro hv hb1)
  clear hv hb1
  go_wp2_with fail
  refine (signed_any neg HV.out.1 hlt hk).mono ?_
  rintro e w2 ⟨v, rfl, hv, hb2⟩
  obtain ⟨A, l, c, rfl, hz⟩ := hv.shape_s H.out.1
  have hR2 := (HR.out.1.next HV.out.2 HR.out.1.lt).next hb2 (Nat.lt_of_lt_of_le HR.out.1.lt HV.out.2.size)
  have hb3 : Below w.heap.size w w2 := (HR.out.2.trans (HV.out.2.mono HR.out.2.size)).trans (hb2.mono (Nat.le_trans HR.out.2.size HV.out.2.size))
  obtain ⟨v0, c0⟩ := hR2.c0
  obtain ⟨v1, c1⟩ := hR2.c1
  have f0 := hR2.f0
  have f1 := hR2.f1
  have HF := Lib.hid (And.intro (hR2.put0 r A l c) (And.intro (hR2.put1 r A l c) (And.intro (hR2.size hz r A l c) (setInt_below hb3 (Nat.le_refl _) r A l c))))
  clear hR2 hb2 hb3 hz hv
  go_wp2
  rw [show (w2.setCell ⟨w.heap.size, 0, none⟩ (.int .i64 r)).setCell ⟨w.heap.size, 1, none⟩ (.slice A l c) = setInt w2 w.heap.size r A l c from rfl]
  obtain ⟨z0, z1, z2, z3⟩ := HF.out
  generalize setInt w2 w.heap.size r A l c = W3 at *
  exact bodyPost_ret (v := .agg #[.int .i64 r, .slice A l c]) (by simp [results, Tryz.results220, go_sem, z0, z1]) rfl ⟨_, rfl, ⟨A, l, c, by rw [H.out.1], z2⟩, z3⟩
theorem nine_pow (n : Nat) : 10 ^ n < M.B ^ (n / 9 + 1) := by
  have h1 : n < 9 * (n / 9 + 1) := by omega
  have h2 : (10 : Nat) ^ n < 10 ^ (9 * (n / 9 + 1)) := Nat.pow_lt_pow_right (by decide) h1
  have h3 : (10 : Nat) ^ (9 * (n / 9 + 1)) ≤ M.B ^ (n / 9 + 1) := by
    rw [Nat.pow_mul]
    exact Nat.pow_le_pow_left (by rw [M.B_eq]; decide) _
  omega
/-- Reading the text of a number. -/
theorem wide_read {w : World} (s : ByteArray) {z : Int} (hs : s.data.toList = Lib.itoa z) (hl : Lib.nDigits z.natAbs ≤ 60000) :
    Calls Tryz.prog 220 #[.string s] w fun e w' => ∃ v, e = .returned v ∧ IsInt w' v z ∧ Below w.heap.size w w' := by
  by_cases h18 : s.size ≤ 18
  · exact wide_read_short s hs h18
  · have h := wide_read_long (w := w) s (decide (z < 0)) (Lib.decDigits z.natAbs) (k := Lib.nDigits z.natAbs / 9 + 1) (by rw [hs, T.itoa_prefix]) (by rw [hs, T.itoa_trim]) (T.decDigits_digit _) (by rw [Lib.decDigits_length]; exact hl) h18
      (by rw [T.num_decDigits]; exact Nat.lt_trans (Lib.lt_pow_nDigits _) (nine_pow _)) (by omega)
    have e : withSign (decide (z < 0)) (T.num (Lib.decDigits z.natAbs)) = z := by
      rw [T.num_decDigits]; unfold withSign; split <;> simp_all <;> omega
    rw [e] at h
    exact h
end Go.Proofs.YtjghgbfagjhdgaaGreatDoor
