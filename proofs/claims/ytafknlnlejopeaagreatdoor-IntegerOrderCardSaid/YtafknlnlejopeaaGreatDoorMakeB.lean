/- The source of numbers: New and Big. -/
import Derived.Test.YtafknlnlejopeaaGreatDoorMake
namespace Go.Proofs.YtafknlnlejopeaaGreatDoor
open Go Go.RowKit

/-- What the law is handed: a slice of whole numbers. -/
def Nums (w : World) (A : Option Addr) (n : Nat) : Prop :=
  n ≤ maxLen ∧ (0 < n → ∃ b off, A = some ⟨b, off, none⟩ ∧ b < w.heap.size ∧ ∀ i, i < n → ∃ z : Int, w.cell? ⟨b, off + i, none⟩ = some (.int .i64 z) ∧ -9223372036854775808 ≤ z ∧ z ≤ 9223372036854775807)

set_option maxHeartbeats 800000 in
set_option maxRecDepth 100000 in
theorem new_any {w : World} {A : Option Addr} {n c : Nat} (h : Nums w A n) (hc : n ≤ c) (_ : c ≤ maxLen) :
    Calls Tryz.prog 10 #[.slice A n c] w fun e w' => ∃ g, e = .returned (.pointer (some ⟨g, 0, none⟩)) ∧ w.heap.size ≤ g ∧ SrcIn w' g ∧ Below w.heap.size w w' := by
  have H := Lib.hid h
  have hn := h.1
  clear h
  go_enter Tryz.func10, Tryz.ntmps10
  go_wp2_with fail
  go_ret
  refine ⟨w.heap.size, rfl, Nat.le_refl _, ?_, (Below.refl _ _).alloc (Nat.le_refl _) _⟩
  refine ⟨A, (min (n : Int) 600).toNat, c, 0, heap_alloc_new w _, Nat.zero_le _, by omega, fun h0 => ?_⟩
  obtain ⟨b, off, e, hb, hc⟩ := H.out.2 (by omega)
  refine ⟨b, off, e, hb, fun i hi => ?_⟩
  obtain ⟨z, hz, hr⟩ := hc i (by omega)
  exact ⟨z, (Below.cell ((Below.refl w.heap.size w).alloc (Nat.le_refl _) _) hb).trans hz, hr⟩

theorem conv_one (w : World) {d : Int} (h0 : 0 ≤ d) (h1 : d < 256) :
    (convert 51 9 (.slice (some ⟨w.heap.size, 0, none⟩) 1 1)).run Tryz.prog (w.alloc (.cells #[.int .u8 d] 5)) = .ok (.string ⟨[UInt8.ofNat d.toNat].toArray⟩) (w.alloc (.cells #[.int .u8 d] 5)) := by
  refine run_convert_bytes_back (P := Tryz.prog) (w.alloc (.cells #[.int .u8 d] 5)) 51 9 5 ⟨w.heap.size, 0, none⟩ 1 [UInt8.ofNat d.toNat] Tryz.underlying51 Tryz.underlying5 Tryz.underlying9 (fun j hj => ?_)
  obtain rfl : j = 0 := by simpa using hj
  have e : (([UInt8.ofNat d.toNat][0]).toNat : Int) = d := by
    show ((UInt8.ofNat d.toNat).toNat : Int) = d
    rw [UInt8.toNat_ofNat']; omega
  rw [e]
  exact cell_at (heap_alloc_new w _) rfl
theorem bytes_app (l r : List UInt8) : (⟨l.toArray⟩ : ByteArray) ++ ⟨r.toArray⟩ = ⟨(l ++ r).toArray⟩ := by
  apply ByteArray.ext
  simp
theorem SrcIn.alloc {w : World} {g : Nat} (h : SrcIn w g) (o : Obj) : SrcIn (w.alloc o) g := h.below ((Below.refl _ _).alloc (Nat.le_refl _) _)
/-- Digits, the first not a 0. -/
def Digs (l : List UInt8) : Prop := (∀ c ∈ l, T.digit c = true) ∧ ∀ c r, l = c :: r → c ≠ 48
theorem Digs.nil : Digs [] := ⟨fun _ h => absurd h (by simp), fun _ _ h => absurd h (by simp)⟩
theorem Digs.snoc {l : List UInt8} (h : Digs l) {d : Int} (h0 : 0 ≤ d) (h1 : d < 10) (hz : l = [] → 1 ≤ d) : Digs (l ++ [UInt8.ofNat (48 + d).toNat]) := by
  have e : (48 + d).toNat = 48 + d.toNat := by omega
  rw [e]
  have hb := T.dig_byte (show d.toNat < 10 by omega)
  refine ⟨fun c hc => ?_, fun c r he => ?_⟩
  · rcases List.mem_append.1 hc with h2 | h2
    · exact h.1 c h2
    · rw [List.mem_singleton] at h2
      rw [h2, T.digit_iff, hb]; omega
  · cases l with
    | nil =>
      injection he with e1 _
      intro e2
      rw [← e1] at e2
      have e3 : (UInt8.ofNat (48 + d.toNat)).toNat = 48 := by rw [e2]; rfl
      have := hz rfl
      omega
    | cons c' r' =>
      injection he with e1 _
      rw [← e1]; exact h.2 c' r' rfl
theorem Digs.itoa {l : List UInt8} (h : Digs l) (h0 : l ≠ []) : ∃ u : Nat, 0 < u ∧ l = Lib.decDigits u ∧ Lib.nDigits u = l.length := by
  have he := T.decDigits_num l h.1 h0 h.2
  refine ⟨T.num l, ?_, he.symm, by rw [← Lib.decDigits_length, he]⟩
  rcases Nat.eq_zero_or_pos (T.num l) with h1 | h1
  · exfalso
    rw [h1] at he
    have e0 : Lib.decDigits 0 = [48] := by decide +kernel
    rw [e0] at he
    exact h.2 48 [] he.symm rfl
  · exact h1

set_option maxHeartbeats 1600000 in
set_option maxRecDepth 100000 in
theorem big_any {w : World} {g : Nat} (d : Nat) (h : SrcIn w g) (hd : d ≤ 100) :
    Calls Tryz.prog 11 #[.pointer (some ⟨g, 0, none⟩), .int .i64 (d : Int)] w fun e w' => ∃ t z, e = .returned (.string t) ∧ t.data.toList = Lib.itoa z ∧ Lib.nDigits z.natAbs ≤ max d 1 ∧ SrcIn w' g ∧ Below g w w' := by
  have H := Lib.hid h
  clear h
  go_enter Tryz.func11, Tryz.ntmps11
  go_wp2_with fail
  refine (n_any ((d : Int) + 1) H.out (by omega) (by omega)).mono ?_
  rintro e w1 ⟨r, rfl, ⟨hr0, hr1⟩, hs, hb⟩
  obtain ⟨n, rfl⟩ : ∃ n : Nat, r = (n : Int) := ⟨r.toNat, by omega⟩
  have H1 := Lib.hid (And.intro hs hb)
  clear hs hb hr0
  go_wp2_with fail
  go_loopw [6, 7] (fun ov iv wr => ∃ (k : Nat) (l : List UInt8), k ≤ n ∧ ov = .string ⟨l.toArray⟩ ∧ iv = .int .i64 (k : Int) ∧ l.length = k ∧ Digs l ∧ SrcIn wr g ∧ Below g w wr) (fun _ iv _ => n - (intOf iv).toNat)
  case atStart => exact ⟨0, [], Nat.zero_le _, rfl, rfl, rfl, Digs.nil, H1.out.1, H1.out.2⟩
  case round =>
    obtain ⟨k, l, hk, rfl, rfl, hl, hdg, hs, hb⟩ := hrel
    have HR := Lib.hid (And.intro hl (And.intro hdg (And.intro hs hb)))
    clear hl hdg hs hb
    by_cases hlt : k < n
    · go_wp2_with fail
      refine (n_any 10 HR.out.2.2.1 (by omega) (by omega)).mono ?_
      rintro e w2 ⟨r, rfl, ⟨hr0, hr1⟩, hs, hb⟩
      have H2 := Lib.hid (And.intro hs (HR.out.2.2.2.trans hb))
      clear hs hb
      by_cases h0 : k = 0
      · subst h0
        go_wp2_with fail
        refine (n_any 9 H2.out.1 (by omega) (by omega)).mono ?_
        rintro e w3 ⟨r3, rfl, ⟨hr3, hr4⟩, hs, hb⟩
        have H3 := Lib.hid (And.intro hs (H2.out.2.trans hb))
        clear hs hb
        have hcv := conv_one w3 (d := 48 + (1 + r3)) (by omega) (by omega)
        have hl0 : l = [] := List.length_eq_zero_iff.1 HR.out.1
        subst hl0
        go_wp2
        go_roundw
        case rel => exact ⟨1, [] ++ [UInt8.ofNat (48 + (1 + r3)).toNat], by omega, congrArg Value.string (bytes_app _ _), rfl, rfl, HR.out.2.1.snoc (d := 1 + r3) (by omega) (by omega) (fun _ => by omega), H3.out.1.alloc _, H3.out.2.alloc (Nat.le_of_lt H3.out.1.lt) _⟩
        case measure => simp [intOf]; omega
      · have hcv := conv_one w2 (d := 48 + r) (by omega) (by omega)
        have hll : l.length ≤ 1000 := by rw [HR.out.1]; omega
        go_wp2
        go_roundw
        case rel => exact ⟨k + 1, l ++ [UInt8.ofNat (48 + r).toNat], by omega, congrArg Value.string (bytes_app _ _), by go_num, by rw [List.length_append, HR.out.1]; rfl, HR.out.2.1.snoc (d := r) (by omega) (by omega) (fun e => absurd (by rw [← HR.out.1, e]; rfl) h0), H2.out.1.alloc _, H2.out.2.alloc (Nat.le_of_lt H2.out.1.lt) _⟩
        case measure => simp [intOf]; omega
    · obtain rfl : k = n := by omega
      by_cases he : l = []
      · subst he
        go_wp2_with fail
        go_ret
        exact ⟨_, 0, rfl, by decide +kernel, Nat.le_trans (show Lib.nDigits (0 : Int).natAbs ≤ 1 by decide +kernel) (Nat.le_max_right _ _), HR.out.2.2.1, HR.out.2.2.2⟩
      · have hem : l.isEmpty = false := by cases l with | nil => exact absurd rfl he | cons c l => rfl
        obtain ⟨u, hu, hl, hn⟩ := HR.out.2.1.itoa he
        have HU := Lib.hid (And.intro hu (And.intro hl hn))
        clear hu hl hn
        go_wp2_with fail
        refine (n_any 2 HR.out.2.2.1 (by omega) (by omega)).mono ?_
        rintro e w2 ⟨r, rfl, ⟨hr0, hr1⟩, hs, hb⟩
        have H2 := Lib.hid (And.intro hs (HR.out.2.2.2.trans hb))
        clear hs hb
        have hdg : Lib.nDigits u ≤ max d 1 := by have := HU.out.2.2; rw [HR.out.1] at this; omega
        have HD := Lib.hid hdg
        clear hdg
        have hll : l.length ≤ 1000 := by rw [HR.out.1]; omega
        by_cases h1 : r = 1
        · subst h1
          go_wp2
          go_ret
          refine ⟨_, -(u : Int), rfl, ?_, by rw [show (-(u : Int)).natAbs = u by omega]; exact HD.out, H2.out.1, H2.out.2⟩
          rw [T.itoa_neg (by have := HU.out.1; omega), show (-(u : Int)).natAbs = u by omega, ← HU.out.2.1]
          rfl
        · obtain rfl : r = 0 := by omega
          go_wp2
          go_ret
          refine ⟨_, (u : Int), rfl, ?_, HD.out, H2.out.1, H2.out.2⟩
          rw [T.itoa_nonneg (by omega), show (u : Int).natAbs = u by omega, ← HU.out.2.1]
end Go.Proofs.YtafknlnlejopeaaGreatDoor
