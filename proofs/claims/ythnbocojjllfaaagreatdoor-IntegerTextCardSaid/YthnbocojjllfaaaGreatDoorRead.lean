/- readNatural, Read, signed texts. -/
import Derived.Test.YthnbocojjllfaaaGreatDoorOwn
import Derived.Test.YthnbocojjllfaaaGreatDoorText
import Derived.Test.YthnbocojjllfaaaGreatDoorShelf
import Derived.Test.YthnbocojjllfaaaGreatDoorIntB
namespace Go.Proofs.YthnbocojjllfaaaGreatDoor
open Go Go.RowKit

theorem make_room (n : Nat) (hn : n ≤ 4611686018427387904 / 65536) (w : World) :
    (Instr.makeSlice 79 (.int .i64 0) (.int .i64 (n : Int))).run Tryz.prog w = .ok (.slice (some ⟨w.heap.size, 0, none⟩) 0 n) (w.alloc (.cells (madeCells #[.int .u32 0] n) 160)) := by
  obtain ⟨i, hi, hz, hs, hb⟩ := info_parts info32
  have h := run_make (P := Tryz.prog) w 79 160 i _ Tryz.underlying79 hi hz .i64 .i64 0 n (by omega) (by omega) (by rw [hb]; omega) (by omega)
  rw [hs] at h
  simpa [Value.cells] using h
theorem own_new (w : World) (n : Nat) (hn : n ≤ maxLen) : Own (w.alloc (.cells (madeCells #[.int .u32 0] n) 160)) w.heap.size 0 n 0 :=
  ⟨World.ownsRow_made w (madeCells #[.int .u32 0] n) n (Nat.le_refl _) hn (by simp [madeCells]), by simp⟩

theorem bytesWorld_below (w : World) (e : TypeId) (s : ByteArray) : Below w.heap.size w (Lib.bytesWorld w e s) := by
  have hb : Below w.heap.size w (w.drew.alloc (.cells (Lib.bytesCells w e s) e)) := ((Below.refl _ _).drew).alloc (Nat.le_refl _) _
  refine ⟨hb.os, hb.tape, hb.output, ?_, fun k hk => ?_⟩
  · show w.heap.size ≤ ((w.drew.alloc (.cells (Lib.bytesCells w e s) e)).heap.modify w.heap.size _).size
    rw [Array.size_modify]
    exact hb.size
  · rw [← hb.block k hk]
    show ((w.drew.alloc (.cells (Lib.bytesCells w e s) e)).heap.modify w.heap.size _)[k]? = _
    rw [Array.getElem?_modify, if_neg (by omega)]
theorem parse_chunk {w : World} (s : ByteArray) (hd : ∀ c ∈ s.data.toList, T.digit c = true) (h0 : 0 < s.size) (h9 : s.size ≤ 9) :
    Calls Tryz.prog 200 #[.string s, .int .i64 10, .int .i64 32] w fun e w' => e = .returned (.tuple #[.int .u64 (T.num s.data.toList : Int), .nilIface]) ∧ Below w.heap.size w w' := by
  have hl : s.data.toList.length = s.size := (Lib.size_eq s).symm
  refine (Tryz.strconv_ParseUint_10_at32_ok s (by omega) _ (T.parse32 hd (by intro e; rw [e] at hl; simp at hl; omega) (by omega)) w).mono ?_
  rintro e w' ⟨rfl, h⟩
  refine ⟨rfl, ?_⟩
  rcases h with rfl | rfl
  · exact Below.refl _ _
  · exact bytesWorld_below _ _ _
theorem num_chunk {done c : List UInt8} {x : Nat} (hx : x = T.num done) (h : done = [] ∨ c.length = 9) : x * 1000000000 + T.num c = T.num (done ++ c) := by
  rw [T.num_append, hx]
  rcases h with rfl | h
  · simp [T.num, T.numA]
  · rw [h]

def strLen : Value → Nat | .string s => s.size | _ => 0
set_option maxHeartbeats 800000 in
set_option maxRecDepth 100000 in
theorem readNatural_any {w : World} (s : ByteArray) (hd : ∀ c ∈ s.data.toList, T.digit c = true) (hl : s.size ≤ 60000) :
    Calls Tryz.prog 180 #[.string s] w fun e w' => ∃ v, e = .returned v ∧ IsNat w' v (T.num s.data.toList) ∧ Below w.heap.size w w' := by
  have hmk := make_room (s.size / 9 + 1) (by omega)
  rw [show ((s.size / 9 + 1 : Nat) : Int) = (s.size : Int) / 9 + 1 by omega] at hmk
  go_enter Tryz.func180, Tryz.ntmps180
  go_wp2_with fail
  have ho := own_new w (s.size / 9 + 1) (by unfold maxLen; omega)
  have hb0 : Below w.heap.size w (w.alloc (.cells (madeCells #[.int .u32 0] (s.size / 9 + 1)) 160)) := (Below.refl _ _).alloc (Nat.le_refl _) _
  clear hmk
  generalize w.alloc (.cells (madeCells #[.int .u32 0] (s.size / 9 + 1)) 160) = w0 at *
  have H := Lib.hid (And.intro ho (And.intro hb0 hd))
  clear ho hb0 hd
  go_loopw [0, 3] (fun sv xv wr => ∃ (d : ByteArray) (L x : Nat) (done : List UInt8), sv = .string d ∧ xv = .slice (some ⟨w.heap.size, 0, none⟩) L (s.size / 9 + 1) ∧ Own wr w.heap.size L (s.size / 9 + 1) x ∧ (L = 0 ∨ M.B ^ (L - 1) ≤ x) ∧
      Below w.heap.size w wr ∧ s.data.toList = done ++ d.data.toList ∧ x = T.num done ∧ d.size ≤ s.size ∧ (done = [] ∨ d.size % 9 = 0) ∧ L + (d.size + 8) / 9 ≤ (s.size + 8) / 9) (fun sv _ _ => strLen sv)
  case atStart => exact ⟨s, 0, 0, [], rfl, rfl, H.out.1, .inl rfl, H.out.2.1, rfl, by simp [T.num, T.numA], Nat.le_refl _, .inl rfl, by omega⟩
  case round =>
    obtain ⟨d, L, x, done, rfl, rfl, ho, hn, hb, hs, hx, hle, h9, hL⟩ := hrel
    by_cases h0 : d.size = 0
    · have hdn : d.data.toList = [] := List.eq_nil_of_length_eq_zero (by rw [← Lib.size_eq]; exact h0)
      rw [hdn, List.append_nil] at hs
      have HN : IsNat wr (.slice (some ⟨w.heap.size, 0, none⟩) L (s.size / 9 + 1)) (T.num s.data.toList) := ⟨_, L, _, rfl, by rw [hs, ← hx]; exact ho.limbs, by rw [hs, ← hx]; exact hn, by omega, by omega⟩
      have HR := Lib.hid (And.intro HN hb)
      clear ho hn hb hs hx h9 hdn HN
      go_wp2
      go_ret
      exact ⟨_, rfl, HR.out.1, HR.out.2⟩
    · have hk1 : (d.size - 1) % 9 + 1 ≤ d.size := by have := Nat.mod_le (d.size - 1) 9; omega
      have hk9 : (d.size - 1) % 9 + 1 ≤ 9 := by omega
      have hdl : d.data.toList.length = d.size := (Lib.size_eq d).symm
      have e1 : (d.extract 0 ((d.size - 1) % 9 + 1)).data.toList = d.data.toList.take ((d.size - 1) % 9 + 1) := by simp
      have e2 : (d.extract ((d.size - 1) % 9 + 1) d.size).data.toList = d.data.toList.drop ((d.size - 1) % 9 + 1) := by simp [List.take_of_length_le, hdl]
      have s1 : (d.extract 0 ((d.size - 1) % 9 + 1)).size = (d.size - 1) % 9 + 1 := by simp; omega
      have s2 : (d.extract ((d.size - 1) % 9 + 1) d.size).size = d.size - ((d.size - 1) % 9 + 1) := by simp
      have hcd : ∀ c ∈ (d.extract 0 ((d.size - 1) % 9 + 1)).data.toList, T.digit c = true := by
        intro c hc
        rw [e1] at hc
        exact H.out.2.2 c (by rw [hs]; exact List.mem_append_right _ (List.mem_of_mem_take hc))
      have hlt := T.num_lt _ hcd
      have hlen : (d.extract 0 ((d.size - 1) % 9 + 1)).data.toList.length ≤ 9 := by rw [e1, List.length_take]; omega
      have hlt9 : T.num (d.extract 0 ((d.size - 1) % 9 + 1)).data.toList ≤ 4294967295 := by
        have := Nat.pow_le_pow_right (n := 10) (by decide) hlen
        omega
      have hval : x * 1000000000 + T.num (d.extract 0 ((d.size - 1) % 9 + 1)).data.toList = T.num (done ++ (d.extract 0 ((d.size - 1) % 9 + 1)).data.toList) :=
        num_chunk hx (by
          rcases h9 with h9 | h9
          · exact .inl h9
          · right; rw [e1, List.length_take]; omega)
      have hsp : s.data.toList = (done ++ (d.extract 0 ((d.size - 1) % 9 + 1)).data.toList) ++ (d.extract ((d.size - 1) % 9 + 1) d.size).data.toList := by
        rw [e1, e2, List.append_assoc, List.take_append_drop]; exact hs
      have HR := Lib.hid (And.intro ho (And.intro hn (And.intro hb (And.intro hsp (And.intro hval (And.intro hcd (And.intro s1 (And.intro s2 hlt9))))))))
      have hroom : L < s.size / 9 + 1 := by omega
      clear ho hn hb hs hx h9 hdl e1 e2 s1 s2 hcd hlt hlen hval hsp
      obtain ⟨c, hc⟩ : ∃ c, c = T.num (d.extract 0 ((d.size - 1) % 9 + 1)).data.toList := ⟨_, rfl⟩
      rw [← hc] at hlt9
      have HC := Lib.hid hc
      clear hc
      go_wp2_with fail
      refine (parse_chunk _ HR.out.2.2.2.2.2.1 (by rw [HR.out.2.2.2.2.2.2.1]; omega) (by rw [HR.out.2.2.2.2.2.2.1]; omega)).mono ?_
      rw [← HC.out]
      rintro e w1 ⟨rfl, hb1⟩
      go_wp2_with fail
      refine (scaleAdd_any (n := x) (f := 1000000000) (s := c) (HR.out.1.below hb1 HR.out.1.lt) hroom (by decide) hlt9 (by omega)).mono ?_
      rintro e w2 ⟨L', rfl, ho2, hg2, hL1, hL2, hnn⟩
      go_wp2
      go_roundw
      case rel =>
        refine ⟨_, L', x * 1000000000 + c, _, rfl, rfl, ho2, ?_, ?_, HR.out.2.2.2.1, by rw [HC.out]; exact HR.out.2.2.2.2.1, ?_, .inr ?_, ?_⟩
        · rcases hnn with rfl | h
          · rcases HR.out.2.1 with h | h
            · exact .inl h
            · right; omega
          · have := M.pow_mono (show L' - 1 ≤ L by omega)
            right; omega
        · exact (HR.out.2.2.1.trans (hb1.mono (HR.out.2.2.1.size))).grown hg2 (Nat.le_trans HR.out.2.2.1.size hb1.size) (by intro k hk; injection hk with hk; omega)
        · rw [HR.out.2.2.2.2.2.2.2.1]; omega
        · rw [HR.out.2.2.2.2.2.2.2.1]; omega
        · rw [HR.out.2.2.2.2.2.2.2.1]; omega
      case measure =>
        show strLen (.string _) < strLen (.string _)
        simp only [strLen]
        rw [HR.out.2.2.2.2.2.2.2.1]; omega
end Go.Proofs.YthnbocojjllfaaaGreatDoor
