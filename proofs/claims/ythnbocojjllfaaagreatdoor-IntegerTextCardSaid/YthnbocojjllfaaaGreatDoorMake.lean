/- sane: the examples of the chapter. The source of numbers: Mod, N, Big, New. The source of numbers: New and Big. -/
import Derived.Test.YthnbocojjllfaaaGreatDoorGcdB
import Derived.Lib.LaidTab
namespace Go.Proofs.YthnbocojjllfaaaGreatDoor
open Go Go.RowKit

theorem imake_any {w : World} (n : Int) (h0 : -9223372036854775808 ≤ n) (h1 : n ≤ 9223372036854775807) (ht : Tab w) :
    Calls Tryz.prog 26 #[.int .i64 n] w fun e w' => e = .returned (.string ⟨(Lib.itoa n).toArray⟩) ∧ Below w.heap.size w w' := by
  have H := Lib.hid (Tryz.strconv_Itoa n h0 h1 w ht.1)
  clear h0 h1 ht
  go_enter Tryz.func26, Tryz.ntmps26
  go_wp2_with fail
  refine H.out.mono ?_
  rintro e w' ⟨rfl, k, os, rfl⟩
  go_wp2
  go_ret
  exact ⟨rfl, grow_below w k os⟩

theorem txt_m7 : Lib.itoa (-7) = [45, 55] := by decide +kernel
theorem txt_2 : Lib.itoa 2 = [50] := by decide +kernel
theorem txt_m2 : Lib.itoa (-2) = [45, 50] := by decide +kernel
theorem txt_m12 : Lib.itoa (-12) = [45, 49, 50] := by decide +kernel
theorem txt_18 : Lib.itoa 18 = [49, 56] := by decide +kernel
theorem txt_m4 : Lib.itoa (-4) = [45, 52] := by decide +kernel
theorem txt_1 : Lib.itoa 1 = [49] := by decide +kernel
theorem txt_4 : Lib.itoa 4 = [52] := by decide +kernel
theorem txt_6 : Lib.itoa 6 = [54] := by decide +kernel
theorem txt_m5 : Lib.itoa (-5) = [45, 53] := by decide +kernel
theorem nd_small {n : Nat} (h : n < 100) : Lib.nDigits n ≤ 400 := Nat.le_trans (nDigits_le (k := 2) (by omega) (by omega)) (by omega)
theorem sane_div1 {w : World} (ht : Tab w) : Calls Tryz.prog 38 #[.string ⟨#[45, 55]⟩, .string ⟨#[50]⟩] w fun e w' => e = .returned (.tuple #[.string ⟨#[45, 52]⟩, .string ⟨#[49]⟩, .int .i64 0]) ∧ Below w.heap.size w w' := by
  have h := div_ok (w := w) (p := -7) (q := 2) ht ⟨#[45, 55]⟩ ⟨#[50]⟩ txt_m7.symm txt_2.symm (nd_small (by decide)) (nd_small (by decide)) (by decide)
  rw [show (-7 : Int) / 2 = -4 by decide, show (-7 : Int) % 2 = 1 by decide, txt_m4, txt_1] at h
  exact h
theorem sane_div2 {w : World} (ht : Tab w) : Calls Tryz.prog 38 #[.string ⟨#[45, 55]⟩, .string ⟨#[45, 50]⟩] w fun e w' => e = .returned (.tuple #[.string ⟨#[52]⟩, .string ⟨#[49]⟩, .int .i64 0]) ∧ Below w.heap.size w w' := by
  have h := div_ok (w := w) (p := -7) (q := -2) ht ⟨#[45, 55]⟩ ⟨#[45, 50]⟩ txt_m7.symm txt_m2.symm (nd_small (by decide)) (nd_small (by decide)) (by decide)
  rw [show (-7 : Int) / (-2) = 4 by decide, show (-7 : Int) % (-2) = 1 by decide, txt_4, txt_1] at h
  exact h
theorem sane_gcd {w : World} (ht : Tab w) : Calls Tryz.prog 40 #[.string ⟨#[45, 49, 50]⟩, .string ⟨#[49, 56]⟩] w fun e w' => e = .returned (.tuple #[.string ⟨#[54]⟩, .int .i64 0]) ∧ Below w.heap.size w w' := by
  have h := gcd_ok (w := w) (p := -12) (q := 18) ⟨#[45, 49, 50]⟩ ⟨#[49, 56]⟩ txt_m12.symm txt_18.symm (nd_small (by decide)) (nd_small (by decide)) ht
  rw [show ((Nat.gcd (-12 : Int).natAbs (18 : Int).natAbs : Nat) : Int) = 6 by decide, txt_6] at h
  exact h
theorem sane_valid {w : World} : Calls Tryz.prog 24 #[.string ⟨#[45, 49, 50, 48]⟩] w fun e w' => e = .returned (.bool true) ∧ w = w' := by
  have h := valid_any (w := w) ⟨#[45, 49, 50, 48]⟩
  rw [show vld (⟨#[45, 49, 50, 48]⟩ : ByteArray).data.toList = true by decide +kernel] at h
  exact h
theorem sane_make {w : World} (ht : Tab w) : Calls Tryz.prog 26 #[.int .i64 (-5)] w fun e w' => e = .returned (.string ⟨#[45, 53]⟩) ∧ Below w.heap.size w w' := by
  have h := imake_any (w := w) (-5) (by decide) (by decide) ht
  rw [txt_m5] at h
  exact h

set_option maxHeartbeats 1600000 in
set_option maxRecDepth 100000 in
theorem sane_any {w : World} (ht : Tab w) : Calls Tryz.prog 23 #[] w fun e w' => e = .returned (.bool true) ∧ Below w.heap.size w w' := by
  have HT := Lib.hid ht
  clear ht
  go_enter Tryz.func23, Tryz.ntmps23
  go_wp2_with fail
  refine (sane_div1 HT.out).mono ?_
  rintro e w1 ⟨rfl, hb1⟩
  have H1 := Lib.hid hb1
  clear hb1
  go_wp2_with fail
  refine (sane_div2 (HT.out.below H1.out)).mono ?_
  rintro e w2 ⟨rfl, hb2⟩
  have H2 := Lib.hid (H1.out.trans (hb2.mono H1.out.size))
  clear hb2
  go_wp2_with fail
  refine (sane_gcd (HT.out.below H2.out)).mono ?_
  rintro e w3 ⟨rfl, hb3⟩
  have H3 := Lib.hid (H2.out.trans (hb3.mono H2.out.size))
  clear hb3
  go_wp2_with fail
  refine sane_valid.mono ?_
  rintro e w4 ⟨rfl, rfl⟩
  go_wp2_with fail
  refine (sane_make (HT.out.below H3.out)).mono ?_
  rintro e w4 ⟨rfl, hb4⟩
  have H4 := Lib.hid (H3.out.trans (hb4.mono H3.out.size))
  clear hb4
  go_wp2
  go_ret
  exact ⟨rfl, H4.out⟩
end Go.Proofs.YthnbocojjllfaaaGreatDoor
namespace Go.Proofs.YthnbocojjllfaaaGreatDoor
open Go Go.RowKit

def modv (x n : Int) : Int := (x.tmod n + n).tmod n
theorem modv_range (x n : Int) (hn : 1 ≤ n) : 0 ≤ modv x n ∧ modv x n < n := by
  have h1 := Int.tmod_lt_of_pos x (show 0 < n by omega)
  have h2 : -n < x.tmod n := by
    rcases Int.le_total 0 x with h | h
    · have := Int.tmod_nonneg n h; omega
    · have h3 := Int.tmod_lt_of_pos (-x) (show 0 < n by omega)
      rw [Int.neg_tmod] at h3; omega
  unfold modv
  rw [Int.tmod_eq_emod_of_nonneg (by omega)]
  exact ⟨Int.emod_nonneg _ (by omega), Int.emod_lt_of_pos _ (by omega)⟩
set_option maxHeartbeats 400000 in
theorem mod_any {w : World} (x n : Int) (hn : 1 ≤ n) (hn' : n ≤ 1000) (_ : -9223372036854775808 ≤ x) (_ : x ≤ 9223372036854775807) :
    Calls Tryz.prog 131 #[.int .i64 x, .int .i64 n] w fun e w' => e = .returned (.int .i64 (modv x n)) ∧ w = w' := by
  have h1 := Int.tmod_lt_of_pos x (show 0 < n by omega)
  have h2 : -n < x.tmod n := by
    rcases Int.le_total 0 x with h | h
    · have := Int.tmod_nonneg n h; omega
    · have h3 := Int.tmod_lt_of_pos (-x) (show 0 < n by omega)
      rw [Int.neg_tmod] at h3; omega
  go_enter Tryz.func131, Tryz.ntmps131
  go_wp2
  go_ret
  exact ⟨by unfold modv; rw [Int.tmod_eq_emod_of_nonneg (a := x.tmod n + n) (by omega)]; rfl, rfl⟩

/-- Block g is a source of numbers. -/
def SrcIn (w : World) (g : Nat) : Prop :=
  ∃ A n c at_, w.heap[g]? = some (.cells #[.slice A n c, .int .i64 ((at_ : Nat) : Int)] 73 (0, 0)) ∧ at_ ≤ n ∧ n ≤ 600 ∧
    (0 < n → ∃ b off, A = some ⟨b, off, none⟩ ∧ b < g ∧ ∀ i, i < n → ∃ z : Int, w.cell? ⟨b, off + i, none⟩ = some (.int .i64 z) ∧ -9223372036854775808 ≤ z ∧ z ≤ 9223372036854775807)
theorem SrcIn.lt {w : World} {g : Nat} (h : SrcIn w g) : g < w.heap.size := by obtain ⟨A, n, c, a, h, _⟩ := h; exact lt_of_block h
theorem SrcIn.below {w w' : World} {g : Nat} (h : SrcIn w g) (hb : Below w.heap.size w w') : SrcIn w' g := by
  obtain ⟨A, n, c, a, hh, h1, h2, h3⟩ := h
  refine ⟨A, n, c, a, (hb.block g (lt_of_block hh)).trans hh, h1, h2, fun h0 => ?_⟩
  obtain ⟨b, off, e, hbl, hc⟩ := h3 h0
  refine ⟨b, off, e, hbl, fun i hi => ?_⟩
  obtain ⟨z, hz, hr⟩ := hc i hi
  exact ⟨z, (hb.cell (Nat.lt_trans hbl (lt_of_block hh))).trans hz, hr⟩

set_option maxHeartbeats 800000 in
set_option maxRecDepth 100000 in
theorem n_any {w : World} {g : Nat} (m : Int) (h : SrcIn w g) (hm : 1 ≤ m) (hm' : m ≤ 1000) :
    Calls Tryz.prog 71 #[.pointer (some ⟨g, 0, none⟩), .int .i64 m] w fun e w' => ∃ r : Int, e = .returned (.int .i64 r) ∧ (0 ≤ r ∧ r < m) ∧ SrcIn w' g ∧ Below g w w' := by
  have hg := h.lt
  have HS := Lib.hid h
  obtain ⟨A, n, c, a, hh, h1, h2, h3⟩ := h
  have c0 : w.cell? ⟨g, 0, none⟩ = some (.slice A n c) := cell_at hh rfl
  have c1 : w.cell? ⟨g, 1, none⟩ = some (.int .i64 (a : Int)) := cell_at hh rfl
  have f1 : w.frozen? ⟨g, 1, none⟩ = false := by simp [World.frozen?, hh]
  have H := Lib.hid (And.intro hh h3)
  clear hh h3
  by_cases hlt : a < n
  · obtain ⟨b, off, rfl, hbl, hc⟩ := H.out.2 (by omega)
    obtain ⟨z, hz, hz1, hz2⟩ := hc a hlt
    have hge : decide ((n : Int) ≤ (a : Int)) = false := decide_eq_false (by omega)
    have HC := Lib.hid (And.intro hc (And.intro hz1 hz2))
    clear hc hz1 hz2
    go_enter Tryz.func71, Tryz.ntmps71
    go_wp2_with fail
    go_quiet (fail)
    go_wp2_with fail
    obtain ⟨w2, hw2⟩ : ∃ w2, w2 = (w.drewN nq).setCell ⟨g, 1, none⟩ (.int .i64 ((a : Int) + 1)) := ⟨_, rfl⟩
    rw [← hw2]
    have hb2 : Below g w w2 := by
      rw [hw2]
      exact Below.setCell ((Drawn.refl w).drewN nq |>.below g) (Nat.le_refl _) _
    have hh2 : w2.heap[g]? = some (.cells #[.slice (some ⟨b, off, none⟩) n c, .int .i64 ((a + 1 : Nat) : Int)] 73 (0, 0)) := by
      rw [hw2]
      exact Lib.heap_setCell_same (i := 1) (show (w.drewN nq).heap[g]? = _ from H.out.1) _
    have d0 : w2.cell? ⟨g, 0, none⟩ = some (.slice (some ⟨b, off, none⟩) n c) := cell_at hh2 rfl
    have d1 : w2.cell? ⟨g, 1, none⟩ = some (.int .i64 ((a : Int) + 1)) := cell_at hh2 rfl
    have dz : w2.cell? ⟨b, off + a, none⟩ = some (.int .i64 z) := (hb2.cell hbl).trans hz
    have hs2 : SrcIn w2 g := by
      refine ⟨_, n, c, a + 1, hh2, hlt, h2, fun _ => ⟨b, off, rfl, hbl, fun i hi => ?_⟩⟩
      obtain ⟨z, hz, hr⟩ := HC.out.1 i hi
      exact ⟨z, (hb2.cell hbl).trans hz, hr⟩
    have H2 := Lib.hid (And.intro hs2 hb2)
    clear hs2 hb2 hh2 hw2 c0 c1 f1 hz
    have hr := modv_range z m hm
    generalize hv : modv z m = v at *
    have HV := Lib.hid hv
    clear hv
    go_wp2_with fail
    go_quiet ((go_at_call 131; exact Calls.quiet_left (mod_any z m hm hm' HC.out.2.1 HC.out.2.2)))
    go_wp2
    go_ret
    exact ⟨_, rfl, by rw [HV.out]; exact hr, H2.out.1.below ((Drawn.refl w2).drewN nq |>.below _), H2.out.2.trans (((Drawn.refl w2).drewN nq |>.below g))⟩
  · have hge : decide ((n : Int) ≤ (a : Int)) = true := decide_eq_true (by omega)
    go_enter Tryz.func71, Tryz.ntmps71
    go_wp2_with fail
    go_quiet (fail)
    go_wp2_with fail
    go_ret
    exact ⟨0, rfl, ⟨by omega, by omega⟩, HS.out.below ((Drawn.refl w).drewN nq |>.below _), (Drawn.refl w).drewN nq |>.below g⟩
end Go.Proofs.YthnbocojjllfaaaGreatDoor
namespace Go.Proofs.YthnbocojjllfaaaGreatDoor
open Go Go.RowKit

/-- What the law is handed: a slice of whole numbers. -/
def Nums (w : World) (A : Option Addr) (n : Nat) : Prop :=
  n ≤ maxLen ∧ (0 < n → ∃ b off, A = some ⟨b, off, none⟩ ∧ b < w.heap.size ∧ ∀ i, i < n → ∃ z : Int, w.cell? ⟨b, off + i, none⟩ = some (.int .i64 z) ∧ -9223372036854775808 ≤ z ∧ z ≤ 9223372036854775807)

set_option maxHeartbeats 800000 in
set_option maxRecDepth 100000 in
theorem new_any {w : World} {A : Option Addr} {n c : Nat} (h : Nums w A n) (hc : n ≤ c) (_ : c ≤ maxLen) :
    Calls Tryz.prog 18 #[.slice A n c] w fun e w' => ∃ g, e = .returned (.pointer (some ⟨g, 0, none⟩)) ∧ w.heap.size ≤ g ∧ SrcIn w' g ∧ Below w.heap.size w w' := by
  have H := Lib.hid h
  have hn := h.1
  clear h
  go_enter Tryz.func18, Tryz.ntmps18
  go_wp2_with fail
  go_ret
  refine ⟨w.heap.size, rfl, Nat.le_refl _, ?_, (Below.refl _ _).alloc (Nat.le_refl _) _⟩
  refine ⟨A, (min (n : Int) 600).toNat, c, 0, heap_alloc_new w _, Nat.zero_le _, by omega, fun h0 => ?_⟩
  obtain ⟨b, off, e, hb, hc⟩ := H.out.2 (by omega)
  refine ⟨b, off, e, hb, fun i hi => ?_⟩
  obtain ⟨z, hz, hr⟩ := hc i (by omega)
  exact ⟨z, (Below.cell ((Below.refl w.heap.size w).alloc (Nat.le_refl _) _) hb).trans hz, hr⟩

theorem conv_one (w : World) {d : Int} (h0 : 0 ≤ d) (h1 : d < 256) :
    (convert 74 9 (.slice (some ⟨w.heap.size, 0, none⟩) 1 1)).run Tryz.prog (w.alloc (.cells #[.int .u8 d] 5)) = .ok (.string ⟨[UInt8.ofNat d.toNat].toArray⟩) (w.alloc (.cells #[.int .u8 d] 5)) := by
  refine run_convert_bytes_back (P := Tryz.prog) (w.alloc (.cells #[.int .u8 d] 5)) 74 9 5 ⟨w.heap.size, 0, none⟩ 1 [UInt8.ofNat d.toNat] Tryz.underlying74 Tryz.underlying5 Tryz.underlying9 (fun j hj => ?_)
  obtain rfl : j = 0 := by simpa using hj
  have e : (([UInt8.ofNat d.toNat][0]).toNat : Int) = d := by
    show ((UInt8.ofNat d.toNat).toNat : Int) = d
    rw [UInt8.toNat_ofNat']; omega
  rw [e]
  exact cell_at (heap_alloc_new w _) rfl
theorem bytes_app (l r : List UInt8) : (⟨l.toArray⟩ : ByteArray) ++ ⟨r.toArray⟩ = ⟨(l ++ r).toArray⟩ := by
  apply ByteArray.ext
  simp
theorem SrcIn.alloc {w : World} {g : Nat} (h : SrcIn w g) (o : Obj) : SrcIn (w.alloc o) g := h.below ((Below.refl _ _).alloc (Nat.le_refl _) _)
/-- Digits, the first not a 0. -/
def Digs (l : List UInt8) : Prop := (∀ c ∈ l, T.digit c = true) ∧ ∀ c r, l = c :: r → c ≠ 48
theorem Digs.nil : Digs [] := ⟨fun _ h => absurd h (by simp), fun _ _ h => absurd h (by simp)⟩
theorem Digs.snoc {l : List UInt8} (h : Digs l) {d : Int} (h0 : 0 ≤ d) (h1 : d < 10) (hz : l = [] → 1 ≤ d) : Digs (l ++ [UInt8.ofNat (48 + d).toNat]) := by
  have e : (48 + d).toNat = 48 + d.toNat := by omega
  rw [e]
  have hb := T.dig_byte (show d.toNat < 10 by omega)
  refine ⟨fun c hc => ?_, fun c r he => ?_⟩
  · rcases List.mem_append.1 hc with h2 | h2
    · exact h.1 c h2
    · rw [List.mem_singleton] at h2
      rw [h2, T.digit_iff, hb]; omega
  · cases l with
    | nil =>
      injection he with e1 _
      intro e2
      rw [← e1] at e2
      have e3 : (UInt8.ofNat (48 + d.toNat)).toNat = 48 := by rw [e2]; rfl
      have := hz rfl
      omega
    | cons c' r' =>
      injection he with e1 _
      rw [← e1]; exact h.2 c' r' rfl
theorem Digs.itoa {l : List UInt8} (h : Digs l) (h0 : l ≠ []) : ∃ u : Nat, 0 < u ∧ l = Lib.decDigits u ∧ Lib.nDigits u = l.length := by
  have he := T.decDigits_num l h.1 h0 h.2
  refine ⟨T.num l, ?_, he.symm, by rw [← Lib.decDigits_length, he]⟩
  rcases Nat.eq_zero_or_pos (T.num l) with h1 | h1
  · exfalso
    rw [h1] at he
    have e0 : Lib.decDigits 0 = [48] := by decide +kernel
    rw [e0] at he
    exact h.2 48 [] he.symm rfl
  · exact h1

set_option maxHeartbeats 1600000 in
set_option maxRecDepth 100000 in
theorem big_any {w : World} {g : Nat} (d : Nat) (h : SrcIn w g) (hd : d ≤ 100) :
    Calls Tryz.prog 19 #[.pointer (some ⟨g, 0, none⟩), .int .i64 (d : Int)] w fun e w' => ∃ t z, e = .returned (.string t) ∧ t.data.toList = Lib.itoa z ∧ Lib.nDigits z.natAbs ≤ max d 1 ∧ SrcIn w' g ∧ Below g w w' := by
  have H := Lib.hid h
  clear h
  go_enter Tryz.func19, Tryz.ntmps19
  go_wp2_with fail
  refine (n_any ((d : Int) + 1) H.out (by omega) (by omega)).mono ?_
  rintro e w1 ⟨r, rfl, ⟨hr0, hr1⟩, hs, hb⟩
  obtain ⟨n, rfl⟩ : ∃ n : Nat, r = (n : Int) := ⟨r.toNat, by omega⟩
  have H1 := Lib.hid (And.intro hs hb)
  clear hs hb hr0
  go_wp2_with fail
  go_loopw [6, 7] (fun ov iv wr => ∃ (k : Nat) (l : List UInt8), k ≤ n ∧ ov = .string ⟨l.toArray⟩ ∧ iv = .int .i64 (k : Int) ∧ l.length = k ∧ Digs l ∧ SrcIn wr g ∧ Below g w wr) (fun _ iv _ => n - (intOf iv).toNat)
  case atStart => exact ⟨0, [], Nat.zero_le _, rfl, rfl, rfl, Digs.nil, H1.out.1, H1.out.2⟩
  case round =>
    obtain ⟨k, l, hk, rfl, rfl, hl, hdg, hs, hb⟩ := hrel
    have HR := Lib.hid (And.intro hl (And.intro hdg (And.intro hs hb)))
    clear hl hdg hs hb
    by_cases hlt : k < n
    · go_wp2_with fail
      refine (n_any 10 HR.out.2.2.1 (by omega) (by omega)).mono ?_
      rintro e w2 ⟨r, rfl, ⟨hr0, hr1⟩, hs, hb⟩
      have H2 := Lib.hid (And.intro hs (HR.out.2.2.2.trans hb))
      clear hs hb
      by_cases h0 : k = 0
      · subst h0
        go_wp2_with fail
        refine (n_any 9 H2.out.1 (by omega) (by omega)).mono ?_
        rintro e w3 ⟨r3, rfl, ⟨hr3, hr4⟩, hs, hb⟩
        have H3 := Lib.hid (And.intro hs (H2.out.2.trans hb))
        clear hs hb
        have hcv := conv_one w3 (d := 48 + (1 + r3)) (by omega) (by omega)
        have hl0 : l = [] := List.length_eq_zero_iff.1 HR.out.1
        subst hl0
        go_wp2
        go_roundw
        case rel => exact ⟨1, [] ++ [UInt8.ofNat (48 + (1 + r3)).toNat], by omega, congrArg Value.string (bytes_app _ _), rfl, rfl, HR.out.2.1.snoc (d := 1 + r3) (by omega) (by omega) (fun _ => by omega), H3.out.1.alloc _, H3.out.2.alloc (Nat.le_of_lt H3.out.1.lt) _⟩
        case measure => simp [intOf]; omega
      · have hcv := conv_one w2 (d := 48 + r) (by omega) (by omega)
        have hll : l.length ≤ 1000 := by rw [HR.out.1]; omega
        go_wp2
        go_roundw
        case rel => exact ⟨k + 1, l ++ [UInt8.ofNat (48 + r).toNat], by omega, congrArg Value.string (bytes_app _ _), by go_num, by rw [List.length_append, HR.out.1]; rfl, HR.out.2.1.snoc (d := r) (by omega) (by omega) (fun e => absurd (by rw [← HR.out.1, e]; rfl) h0), H2.out.1.alloc _, H2.out.2.alloc (Nat.le_of_lt H2.out.1.lt) _⟩
        case measure => simp [intOf]; omega
    · obtain rfl : k = n := by omega
      by_cases he : l = []
      · subst he
        go_wp2_with fail
        go_ret
        exact ⟨_, 0, rfl, by decide +kernel, Nat.le_trans (show Lib.nDigits (0 : Int).natAbs ≤ 1 by decide +kernel) (Nat.le_max_right _ _), HR.out.2.2.1, HR.out.2.2.2⟩
      · have hem : l.isEmpty = false := by cases l with | nil => exact absurd rfl he | cons c l => rfl
        obtain ⟨u, hu, hl, hn⟩ := HR.out.2.1.itoa he
        have HU := Lib.hid (And.intro hu (And.intro hl hn))
        clear hu hl hn
        go_wp2_with fail
        refine (n_any 2 HR.out.2.2.1 (by omega) (by omega)).mono ?_
        rintro e w2 ⟨r, rfl, ⟨hr0, hr1⟩, hs, hb⟩
        have H2 := Lib.hid (And.intro hs (HR.out.2.2.2.trans hb))
        clear hs hb
        have hdg : Lib.nDigits u ≤ max d 1 := by have := HU.out.2.2; rw [HR.out.1] at this; omega
        have HD := Lib.hid hdg
        clear hdg
        have hll : l.length ≤ 1000 := by rw [HR.out.1]; omega
        by_cases h1 : r = 1
        · subst h1
          go_wp2
          go_ret
          refine ⟨_, -(u : Int), rfl, ?_, by rw [show (-(u : Int)).natAbs = u by omega]; exact HD.out, H2.out.1, H2.out.2⟩
          rw [T.itoa_neg (by have := HU.out.1; omega), show (-(u : Int)).natAbs = u by omega, ← HU.out.2.1]
          rfl
        · obtain rfl : r = 0 := by omega
          go_wp2
          go_ret
          refine ⟨_, (u : Int), rfl, ?_, HD.out, H2.out.1, H2.out.2⟩
          rw [T.itoa_nonneg (by omega), show (u : Int).natAbs = u by omega, ← HU.out.2.1]
end Go.Proofs.YthnbocojjllfaaaGreatDoor
