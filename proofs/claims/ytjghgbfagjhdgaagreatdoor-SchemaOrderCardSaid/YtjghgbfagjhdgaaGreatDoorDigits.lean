/- slices.Reverse at bytes; Digits. Digits. integer.write. integer.Valid. -/
import Derived.Test.YtjghgbfagjhdgaaGreatDoorOwns
import Derived.Test.YtjghgbfagjhdgaaGreatDoorPure
import Derived.Test.YtjghgbfagjhdgaaGreatDoorReads
import Derived.RegionTactic
import Derived.BigRegion
import Derived.Test.YtjghgbfagjhdgaaGreatDoorInts
import Derived.Laws.IdiomStrings
import Derived.Laws.CopyOwn
namespace Go.Proofs.YtjghgbfagjhdgaaGreatDoor
open Go Go.RowKit

def byt (c : UInt8) : Value := .int .u8 (c.toNat : Int)
/-- Block g begins with the bytes l and has room for cap. -/
def OwnBytes (w : World) (g cap : Nat) (l : List UInt8) : Prop := w.ownsRow g 5 1 (.slice (some ⟨g, 0, none⟩) l.length cap) l.length (l.map byt)

section
variable {w w' : World} {g cap : Nat} {l : List UInt8}
theorem OwnBytes.block (h : OwnBytes w g cap l) : ∃ cur, w.heap[g]? = some (.cells cur 5 (0, 0)) ∧ l.length ≤ cap ∧ cap ≤ maxLen := by
  rcases h.2 with ⟨h', _⟩ | ⟨g', cap', cur, h', _, hg, h1, h2, _⟩
  · simp at h'
  · simp only [Value.slice.injEq, Option.some.injEq, Addr.mk.injEq, and_true, true_and] at h'
    obtain ⟨rfl, rfl⟩ := h'
    exact ⟨cur, hg, h1, h2⟩
theorem OwnBytes.lt (h : OwnBytes w g cap l) : g < w.heap.size := by obtain ⟨_, h, _⟩ := h.block; exact lt_of_block h
theorem OwnBytes.cell (h : OwnBytes w g cap l) {j : Nat} {c : UInt8} (hj : l[j]? = some c) : w.cell? ⟨g, j, none⟩ = some (.int .u8 (c.toNat : Int)) := by
  have hlt : j < l.length := by
    rcases Nat.lt_or_ge j l.length with h1 | h1
    · exact h1
    · rw [List.getElem?_eq_none h1] at hj; cases hj
  unfold OwnBytes at h
  rw [h.cellAt j (by omega), List.getElem?_map, hj]; rfl
theorem OwnBytes.free (h : OwnBytes w g cap l) (j : Nat) : w.frozen? ⟨g, j, none⟩ = false := World.ownsRow.frozenAt h j
theorem OwnBytes.set (h : OwnBytes w g cap l) (k : Nat) (c : UInt8) : OwnBytes (w.setCell ⟨g, k, none⟩ (.int .u8 (c.toNat : Int))) g cap (l.set k c) := by
  have h2 := (World.ownsRow.stored h k (byt c)).1
  unfold OwnBytes
  rw [List.length_set, List.map_set]
  exact h2
theorem OwnBytes.keep (h : OwnBytes w g cap l) (hb : w'.heap[g]? = w.heap[g]?) : OwnBytes w' g cap l := by
  refine ⟨h.1, ?_⟩
  rcases h.2 with h1 | ⟨g', cap', cur, h', h2, hg, h3⟩
  · exact .inl h1
  · refine .inr ⟨g', cap', cur, h', h2, ?_, h3⟩
    simp only [Value.slice.injEq, Option.some.injEq, Addr.mk.injEq, and_true, true_and] at h'
    rw [← h'.1, hb, h'.1]; exact hg
theorem OwnBytes.below (h : OwnBytes w g cap l) {B : Nat} (hb : Below B w w') (hg : g < B) : OwnBytes w' g cap l := h.keep (hb.block g hg)
end

/-- Turned round as far as i. -/
def rv (l : List UInt8) (i : Nat) : List UInt8 := (List.range l.length).map fun k => if k < i ∨ l.length - 1 - i < k then l.getD (l.length - 1 - k) 0 else l.getD k 0
theorem rv_length (l : List UInt8) (i : Nat) : (rv l i).length = l.length := by simp [rv]
theorem rv_get {l : List UInt8} {i k : Nat} (hk : k < l.length) : (rv l i)[k]? = some (if k < i ∨ l.length - 1 - i < k then l.getD (l.length - 1 - k) 0 else l.getD k 0) := by simp [rv, hk]
theorem rv_zero (l : List UInt8) : rv l 0 = l := by
  apply List.ext_getElem?
  intro k
  by_cases hk : k < l.length
  · rw [rv_get hk, if_neg (by omega), List.getElem?_eq_getElem hk]; simp [List.getD, hk]
  · rw [List.getElem?_eq_none (by rw [rv_length]; omega), List.getElem?_eq_none (by omega)]
theorem rv_end {l : List UInt8} {i : Nat} (h : l.length ≤ 2 * i + 1) : rv l i = l.reverse := by
  apply List.ext_getElem?
  intro k
  by_cases hk : k < l.length
  · rw [rv_get hk, List.getElem?_reverse hk]
    have h2 : l.length - 1 - k < l.length := by omega
    by_cases hc : k < i ∨ l.length - 1 - i < k
    · rw [if_pos hc]; simp [List.getD, h2]
    · rw [if_neg hc, show l.length - 1 - k = k by omega]; simp [List.getD, hk]
  · rw [List.getElem?_eq_none (by rw [rv_length]; omega), List.getElem?_eq_none (by simp; omega)]
theorem rv_step {l : List UInt8} {i : Nat} (h : 2 * i + 1 < l.length) : ((rv l i).set i (l.getD (l.length - 1 - i) 0)).set (l.length - 1 - i) (l.getD i 0) = rv l (i + 1) := by
  apply List.ext_getElem?
  intro k
  by_cases hk : k < l.length
  · rw [List.getElem?_set, List.getElem?_set, List.length_set, rv_length, rv_get hk, rv_get hk]
    by_cases h1 : l.length - 1 - i = k
    · rw [if_pos h1, if_pos (by omega), if_pos (by omega), show l.length - 1 - k = i by omega]
    · rw [if_neg h1]
      by_cases h2 : i = k
      · subst h2; rw [if_pos rfl, if_pos hk, if_pos (by omega)]
      · rw [if_neg h2]
        by_cases h3 : k < i ∨ l.length - 1 - i < k
        · rw [if_pos h3, if_pos (by omega)]
        · rw [if_neg h3, if_neg (by omega)]
  · rw [List.getElem?_eq_none (by simp [rv_length]; omega), List.getElem?_eq_none (by rw [rv_length]; omega)]

set_option maxHeartbeats 800000 in
theorem reverse_any {w : World} {g cap : Nat} {l : List UInt8} (h : OwnBytes w g cap l) (hl : l.length ≤ 1000000) :
    Calls Tryz.prog 178 #[.slice (some ⟨g, 0, none⟩) l.length cap] w fun e w' => e = .returned (.tuple #[]) ∧ OwnBytes w' g cap l.reverse ∧ w.grownBy w' (some g) := by
  have H := Lib.hid h
  clear h
  go_enter Tryz.func178, Tryz.ntmps178
  go_wp2_with fail
  go_loopw [2, 3] (fun iv jv wr => ∃ i : Nat, i ≤ l.length ∧ iv = .int .i64 (i : Int) ∧ jv = .int .i64 ((l.length : Int) - 1 - i) ∧ OwnBytes wr g cap (rv l i) ∧ w.grownBy wr (some g) ∧ 2 * i ≤ l.length + 1) (fun iv _ _ => l.length - (intOf iv).toNat)
  case atStart => exact ⟨0, Nat.zero_le _, rfl, by simp, by rw [rv_zero]; exact H.out, only_refl _ _, by omega⟩
  case round =>
    obtain ⟨i, hi, rfl, rfl, ho, hg, h2⟩ := hrel
    by_cases hlt : 2 * i + 1 < l.length
    · obtain ⟨j, hj⟩ : ∃ j, j = l.length - 1 - i := ⟨_, rfl⟩
      have hij : i < j := by omega
      have hjl : j < l.length := by omega
      have ej : ((l.length : Int) - 1 - i) = (j : Int) := by omega
      have hci := ho.cell (rv_get (show i < l.length by omega))
      have hcj := ho.cell (rv_get hjl)
      rw [if_neg (by omega)] at hci hcj
      have hfi := ho.free i
      have hfj := ho.free j
      have R := (ho.set i (l.getD j 0)).set j (l.getD i 0)
      have hst := rv_step hlt
      rw [← hj] at hst
      rw [hst] at R
      rw [ej]
      have HO := Lib.hid (And.intro R (And.intro hg hj))
      clear ho hg hj R hst ej
      obtain ⟨a, ha⟩ : ∃ a, a = ((l.getD i 0).toNat : Int) := ⟨_, rfl⟩
      obtain ⟨b, hb⟩ : ∃ b, b = ((l.getD j 0).toNat : Int) := ⟨_, rfl⟩
      rw [← ha] at hci HO
      rw [← hb] at hcj HO
      have HAB := Lib.hid (And.intro ha hb)
      clear ha hb
      go_wp2_with fail
      go_region
      go_wp2
      go_roundw
      case rel =>
        refine ⟨i + 1, by omega, by go_num, ?_, HO.out.1, ?_, by omega⟩
        · have := HO.out.2.2
          have e : (j : Int) - 1 = (l.length : Int) - 1 - ((i + 1 : Nat) : Int) := by omega
          rw [e]
        · have hg := only_set (only_set HO.out.2.1 i (.int .u8 b)) j (.int .u8 a)
          exact ⟨hg.os, hg.tape, hg.output, hg.size, hg.block⟩
      case measure => simp [intOf]; omega
    · have HO := Lib.hid (And.intro (rv_end (show l.length ≤ 2 * i + 1 by omega) ▸ ho) hg)
      clear ho hg
      go_wp2
      go_end0
      exact ⟨rfl, HO.out.1, HO.out.2⟩
end Go.Proofs.YtjghgbfagjhdgaaGreatDoor
namespace Go.Proofs.YtjghgbfagjhdgaaGreatDoor
open Go Go.RowKit

theorem info8 : (Tryz.prog.info? 5).map (fun i => (i.zero, i.size, i.bytes)) = some (some (.int .u8 0), 1, 1) := by kernel_rfl
theorem make_bytes (n : Nat) (hn : n ≤ 4611686018427387904 / 65536) (w : World) :
    (Instr.makeSlice 66 (.int .i64 0) (.int .i64 (n : Int))).run Tryz.prog w = .ok (.slice (some ⟨w.heap.size, 0, none⟩) 0 n) (w.alloc (.cells (madeCells #[.int .u8 0] n) 5)) := by
  obtain ⟨i, hi, hz, hs, hb⟩ := info_parts info8
  have h := run_make (P := Tryz.prog) w 66 5 i _ Tryz.underlying66 hi hz .i64 .i64 0 n (by omega) (by omega) (by rw [hb]; omega) (by omega)
  rw [hs] at h
  simpa [Value.cells] using h
theorem bytes_new (w : World) (n : Nat) (hn : n ≤ maxLen) : OwnBytes (w.alloc (.cells (madeCells #[.int .u8 0] n) 5)) w.heap.size n [] :=
  World.ownsRow_made w (madeCells #[.int .u8 0] n) n (Nat.le_refl _) hn (by simp [madeCells])
theorem conv_own {w : World} {g cap n : Nat} {l : List UInt8} (h : OwnBytes w g cap l) (hn : n = l.length) (dst : TypeId) (hd : Tryz.prog.underlying dst = some .string) :
    (convert 66 dst (.slice (some ⟨g, 0, none⟩) n cap)).run Tryz.prog w = .ok (.string ⟨l.toArray⟩) w := by
  subst hn
  refine run_convert_bytes_back (P := Tryz.prog) w 66 dst 5 ⟨g, 0, none⟩ cap l Tryz.underlying66 Tryz.underlying5 hd (fun j hj => ?_)
  rw [show ((⟨g, 0, none⟩ : Addr).add j) = ⟨g, j, none⟩ by unfold Addr.add; split <;> simp_all]
  exact h.cell (by simp [hj])
theorem trim_zeros {w : World} {l d : List UInt8} (hd : l.dropWhile (· == 48) = d) :
    Calls Tryz.prog 179 #[.string ⟨l.toArray⟩, .string ⟨#[48]⟩] w fun e w' => e = .returned (.string ⟨d.toArray⟩) ∧ w = w' := by
  subst hd
  refine (Tryz.strings_TrimLeft_one ⟨l.toArray⟩ 48 (by decide) w).mono ?_
  rintro e w1 ⟨rfl, rfl⟩
  exact ⟨rfl, rfl⟩
theorem own_ne {w : World} {g L cap n g' cap' : Nat} {l : List UInt8} (h : Own w g L cap n) (h' : OwnBytes w g' cap' l) : g ≠ g' := by
  rintro rfl
  obtain ⟨c1, e1, _⟩ := h.block
  obtain ⟨c2, e2, _⟩ := h'.block
  rw [e1] at e2
  injection e2 with e2
  injection e2 with _ e3
  exact absurd e3 (by decide)
theorem pow_ten (l : Nat) : M.B ^ l ≤ 10 ^ (10 * l) := by
  rw [Nat.pow_mul]
  exact Nat.pow_le_pow_left (by rw [M.B_eq]; decide) l

set_option maxHeartbeats 800000 in
theorem digits_short {w : World} {v : Value} {z : Int} (ht : Tab w) (h : IsInt w v z) (hz : z.natAbs ≤ 4611686018427387903) :
    Calls Tryz.prog 123 #[v] w fun e w' => e = .returned (.string ⟨(Lib.decDigits z.natAbs).toArray⟩) ∧ Below w.heap.size w w' := by
  have HH := Lib.hid (And.intro ht (And.intro h hz))
  obtain ⟨A, l, c, rfl, hs⟩ := h.shape_s (wrd_short hz).symm
  have z1 : -9223372036854775808 ≤ z := by omega
  have z2 : z ≤ 9223372036854775807 := by omega
  have hb0 : Below w.heap.size w (w.alloc (.cells #[.int .i64 z, .slice A l c] 77)) := (Below.refl _ _).alloc (Nat.le_refl _) _
  have hc0 : (w.alloc (.cells #[.int .i64 z, .slice A l c] 77)).cell? ⟨w.heap.size, 0, none⟩ = some (.int .i64 z) := by go_cell
  have hc1 : (w.alloc (.cells #[.int .i64 z, .slice A l c] 77)).cell? ⟨w.heap.size, 1, none⟩ = some (.slice A l c) := by go_cell
  have hsz0 : w.heap.size < (w.alloc (.cells #[.int .i64 z, .slice A l c] 77)).heap.size := by simp
  have HC := Lib.hid (And.intro hc0 (And.intro hc1 (And.intro hsz0 hb0)))
  clear hc0 hc1 hsz0 hb0 ht h hz hs
  go_enter Tryz.func123, Tryz.ntmps123
  go_wp2_with fail
  generalize w.alloc (.cells #[.int .i64 z, .slice A l c] 77) = w0 at *
  refine (short_yes (HH.out.2.1.below HC.out.2.2.2 (Nat.le_refl _)) HH.out.2.2).mono ?_
  rintro e w1 ⟨rfl, hb1⟩
  have hc0 := (hb1.cell HC.out.2.2.1).trans HC.out.1
  have H1 := Lib.hid (HC.out.2.2.2.trans (hb1.mono HC.out.2.2.2.size))
  clear hb1
  go_wp2_with fail
  refine (magnitude_any z z1 z2).mono ?_
  rintro e w2 ⟨rfl, rfl⟩
  obtain ⟨u, hu⟩ : ∃ u, u = z.natAbs := ⟨_, rfl⟩
  rw [← hu]
  have hu1 : u < 18446744073709551616 := by omega
  have HU := Lib.hid hu
  clear hu hc0
  go_wp2_with fail
  refine (uint_any u hu1 w1 (HH.out.1.below H1.out)).mono ?_
  rintro e w2 ⟨rfl, hb2⟩
  go_wp2
  go_ret
  exact ⟨by rw [← HU.out]; rfl, H1.out.trans (hb2.mono H1.out.size)⟩

set_option maxHeartbeats 1600000 in
set_option maxRecDepth 100000 in
theorem digits_long {w : World} {v : Value} {z : Int} {k : Nat} (h : IsInt w v z) (hlong : ¬ z.natAbs ≤ 4611686018427387903) (hz : z.natAbs < M.B ^ k) (hk : k ≤ 30000) :
    Calls Tryz.prog 123 #[v] w fun e w' => e = .returned (.string ⟨(Lib.decDigits z.natAbs).toArray⟩) ∧ Below w.heap.size w w' := by
  have HH := Lib.hid (And.intro h hlong)
  obtain ⟨sg, hsg⟩ : ∃ sg, sg = wrd z := ⟨_, rfl⟩
  obtain ⟨A, l, c, rfl, hs0⟩ := h.shape_s hsg
  have hpos := (hs0.2 hlong).1
  have hs := (hs0.2 hlong).2
  obtain ⟨A', l', c', e, hl, hm, hlk, _, _⟩ := hs.open_ hz
  injection e with e1 e2 e3
  subst e1 e2 e3
  have hn0 : 0 < z.natAbs := by omega
  clear h hsg hs hz hs0 hlong
  obtain ⟨b, off, rfl, _⟩ := hl.2 (by omega)
  have HZ : ∃ n, n = z.natAbs := ⟨_, rfl⟩
  obtain ⟨n, hnz⟩ := HZ
  rw [← hnz] at hl hm hn0
  rw [← hnz]
  have hl0 := hl.alloc (.cells #[.int .i64 sg, .slice (some ⟨b, off, none⟩) l c] 77)
  have hb0 : Below w.heap.size w (w.alloc (.cells #[.int .i64 sg, .slice (some ⟨b, off, none⟩) l c] 77)) := (Below.refl _ _).alloc (Nat.le_refl _) _
  have hc1 : (w.alloc (.cells #[.int .i64 sg, .slice (some ⟨b, off, none⟩) l c] 77)).cell? ⟨w.heap.size, 1, none⟩ = some (.slice (some ⟨b, off, none⟩) l c) := by go_cell
  have hsz0 : w.heap.size < (w.alloc (.cells #[.int .i64 sg, .slice (some ⟨b, off, none⟩) l c] 77)).heap.size := by simp
  have HC := Lib.hid (And.intro hc1 (And.intro hsz0 (And.intro hb0 hl0)))
  have HM := Lib.hid hm
  have HN := Lib.hid (And.intro hn0 hl.1)
  have hmk := make_bytes (l * 10 + 9) (by omega)
  rw [show ((l * 10 + 9 : Nat) : Int) = (l : Int) * 10 + 9 by omega] at hmk
  clear hl hm hl0 hb0 hn0 hc1 hsz0 hnz
  focus
    go_enter Tryz.func123, Tryz.ntmps123
    go_wp2_with fail
    generalize w.alloc (.cells #[.int .i64 sg, .slice (some ⟨b, off, none⟩) l c] 77) = w0 at *
    refine (short_no (HH.out.1.below HC.out.2.2.1 (Nat.le_refl _)) HH.out.2).mono ?_
    rintro e ws ⟨rfl, hbs⟩
    have hc1 := (hbs.cell HC.out.2.1).trans HC.out.1
    have H := Lib.hid (And.intro (HC.out.2.2.2.below hbs (Nat.le_refl _)) (And.intro (HC.out.2.2.1.trans (hbs.mono HC.out.2.2.1.size)) HN.out))
    clear hbs
    go_wp2_with fail
    refine (clone_any H.out.1 hpos (by omega)).mono ?_
    rintro e w1 ⟨g, cap, rfl, ho, hg, hb1⟩
    have H1 := Lib.hid (And.intro ho (And.intro hg (H.out.2.1.trans (hb1.mono H.out.2.1.size))))
    clear ho hg hb1
    go_wp2_with fail
    have hby := bytes_new w1 (l * 10 + 9) (by unfold maxLen; omega)
    have hb2 : Below w.heap.size w (w1.alloc (.cells (madeCells #[.int .u8 0] (l * 10 + 9)) 5)) := H1.out.2.2.alloc H1.out.2.2.size _
    have ho2 := H1.out.1.alloc (.cells (madeCells #[.int .u8 0] (l * 10 + 9)) 5)
    have hgb : w.heap.size ≤ w1.heap.size := H1.out.2.2.size
    have hg2 : w.heap.size ≤ g := Nat.le_trans H.out.2.1.size H1.out.2.1
    clear hmk
    generalize w1.alloc (.cells (madeCells #[.int .u8 0] (l * 10 + 9)) 5) = w2 at *
    generalize w1.heap.size = gb at *
    have H2 := Lib.hid (And.intro ho2 (And.intro hby hb2))
    clear ho2 hby hb2
    go_loopw [3, 4] (fun rv lv wr => ∃ j L' : Nat, rv = .slice (some ⟨g, 0, none⟩) L' cap ∧ lv = .slice (some ⟨gb, 0, none⟩) (9 * j) (l * 10 + 9) ∧ Own wr g L' cap (n / 10 ^ (9 * j)) ∧ (L' = 0 ∨ M.B ^ (L' - 1) ≤ n / 10 ^ (9 * j)) ∧ L' ≤ l ∧
        OwnBytes wr gb (l * 10 + 9) (T.lows n (9 * j)) ∧ Below w.heap.size w wr) (fun _ lv _ => l * 10 + 9 - lenOf lv)
    case atStart => exact ⟨0, l, rfl, rfl, by simpa using H2.out.1, by simpa using HM.out, Nat.le_refl _, H2.out.2.1, H2.out.2.2⟩
    case round =>
      obtain ⟨j, L', rfl, rfl, ho, hm, hL', hby, hb⟩ := hrel
      by_cases h0 : L' = 0
      · subst h0
        have hn0 : n / 10 ^ (9 * j) = 0 := by have := ho.2; simpa using this
        have hlt : n < 10 ^ (9 * j) := by
          rcases Nat.lt_or_ge n (10 ^ (9 * j)) with h | h
          · exact h
          · have := Nat.div_pos h (Nat.pow_pos (by decide)); omega
        have hw := T.written H.out.2.2.1 hlt
        have hlen := T.lows_length n (9 * j)
        obtain ⟨ls, hls⟩ : ∃ ls, ls = T.lows n (9 * j) := ⟨_, rfl⟩
        rw [← hls] at hby hw hlen
        rw [← hlen]
        have hll : ls.length ≤ l * 10 + 9 := by obtain ⟨_, _, h, _⟩ := hby.block; exact h
        have HR := Lib.hid (And.intro hby (And.intro hb hw))
        clear ho hm hby hb hw hn0 hlt hls hlen
        go_wp2_with fail
        refine (reverse_any HR.out.1 (by omega)).mono ?_
        rintro e w3 ⟨rfl, hby3, hg3⟩
        obtain ⟨rs, hrs⟩ : ∃ rs, rs = ls.reverse := ⟨_, rfl⟩
        rw [← hrs] at hby3
        have hcv := conv_own hby3 (show ls.length = rs.length by rw [hrs]; simp) 9 Tryz.underlying9
        have hw := HR.out.2.2
        rw [← hrs] at hw
        have hb3 : Below w.heap.size w w3 := HR.out.2.1.grown hg3 HR.out.2.1.size (by intro k hk; injection hk with hk; omega)
        have HS := Lib.hid (And.intro hb3 hw)
        clear hby3 hg3 hw hb3 hrs
        go_wp2_with fail
        refine (trim_zeros HS.out.2).mono ?_
        rintro e w4 ⟨rfl, rfl⟩
        go_wp2
        go_ret
        exact ⟨rfl, HS.out.1⟩
      · have hL0 : 0 < L' := by omega
        have hm2 : M.B ^ (L' - 1) ≤ n / 10 ^ (9 * j) := by
          rcases hm with h | h
          · omega
          · exact h
        have hj9 : 9 * j < 10 * l := by
          have h1 := M.pow_pos (L' - 1)
          have h2 : 10 ^ (9 * j) ≤ n := by
            rcases Nat.lt_or_ge n (10 ^ (9 * j)) with h3 | h3
            · rw [Nat.div_eq_of_lt h3] at hm2; omega
            · exact h3
          have h3 := Nat.lt_of_le_of_lt h2 (Nat.lt_of_lt_of_le H.out.2.2.2 (pow_ten l))
          exact (Nat.pow_lt_pow_iff_right (by decide)).1 h3
        have hne := own_ne ho hby
        have HR := Lib.hid (And.intro ho (And.intro hby (And.intro hb hne)))
        clear ho hm hby hb hne hm2 h0
        go_wp2_with fail
        refine (setQuotient_own (y := 1000000000) HR.out.1 (by decide) (by decide) (by omega)).mono ?_
        rintro e w3 ⟨rfl, ho3, hg3⟩
        have hby3 := HR.out.2.1.keep (hg3.block gb HR.out.2.1.lt (by intro e; injection e with e; exact HR.out.2.2.2 e.symm))
        have hb3 : Below w.heap.size w w3 := HR.out.2.2.1.grown hg3 HR.out.2.2.1.size (by intro k hk; injection hk with hk; omega)
        rw [T.rest_chunk] at ho3
        have HS := Lib.hid (And.intro ho3 (And.intro hby3 hb3))
        clear ho3 hby3 hb3 hg3
        obtain ⟨q, hq⟩ : ∃ q, q = n / 10 ^ (9 * j) % 1000000000 := ⟨_, rfl⟩
        rw [← hq]
        have hq9 : q ≤ 999999999 := by omega
        have HQ := Lib.hid hq
        clear hq
        go_wp2_with fail
        obtain ⟨cur, hcur, hLc, hcm⟩ := HS.out.1.block
        unfold maxLen at hcm
        have HCU := Lib.hid hcur
        clear hcur
        refine (trim_core HS.out.1.limbs hLc (by omega)).mono ?_
        rintro e w4 ⟨L2, rfl, hL2, hn2, hm2, rfl⟩
        have HT := Lib.hid (And.intro (HS.out.1.cut hL2 hn2) hm2)
        clear hn2 hm2
        go_wp2_with fail
        obtain ⟨wo, rfl⟩ : ∃ wo : World, wo = w3 := ⟨_, rfl⟩
        go_loopw [4, 5, 28] (fun lv cv tv wr => ∃ t : Nat, t ≤ 9 ∧ tv = .int .i64 (t : Int) ∧ cv = .int .u32 ((q / 10 ^ t : Nat) : Int) ∧ lv = .slice (some ⟨gb, 0, none⟩) (9 * j + t) (l * 10 + 9) ∧ OwnBytes wr gb (l * 10 + 9) (T.lows n (9 * j + t)) ∧ Own wr g L2 cap (n / 10 ^ (9 * (j + 1))) ∧ Below w.heap.size w wr) (fun _ _ tv _ => 9 - (intOf tv).toNat)
        case atStart => exact ⟨0, by omega, rfl, by simp, rfl, HS.out.2.1, HT.out.1, HS.out.2.2⟩
        case round =>
          obtain ⟨t, ht, rfl, rfl, rfl, hby, ho, hb⟩ := hrel
          by_cases ht9 : t < 9
          · have HU := Lib.hid (And.intro hby (And.intro ho hb))
            clear hby ho hb
            obtain ⟨ei, hi0, hz0, hz1, hz2⟩ := info_parts info8
            have HI := Lib.hid (And.intro hi0 hz1)
            clear hi0 hz0 hz1 hz2
            obtain ⟨q2, hq2⟩ : ∃ q2, q2 = q / 10 ^ t := ⟨_, rfl⟩
            rw [← hq2]
            have hq3 : q2 ≤ 999999999 := by rw [hq2]; exact Nat.le_trans (Nat.div_le_self _ _) hq9
            have HQ2 := Lib.hid hq2
            clear hq2
            have hown : wr.ownsRow gb 5 1 (.slice (some ⟨gb, 0, none⟩) (9 * j + t) (l * 10 + 9)) (9 * j + t) ((T.lows n (9 * j + t)).map byt) := by
              have h := HU.out.1
              unfold OwnBytes at h
              rwa [T.lows_length] at h
            have hgbl := HU.out.1.lt
            have HO := Lib.hid hown
            clear hown
            go_wp2_with (at_builtin; refine wpList_append_fits _ rfl (.tmp 30) (.tmp 35) _ rfl gb 5 ei 1 Tryz.underlying66 HI.out.1 HI.out.2 gb (9 * j + t) (l * 10 + 9) ((T.lows n (9 * j + t)).map byt) rfl (HO.out.alloc _) ⟨wr.heap.size, 0, none⟩ 1 1 [.int .u8 (48 + (q2 : Int) % 10)] rfl rfl (by intro j u hj; match j, hj with | 0, hj => simp at hj; subst hj; simp [Addr.add]) (by intro u hu; simp at hu; subst hu; rfl) (by omega) ?_; intro w5 hown1 hgrow1)
            have hE : (T.lows n (9 * j + t)).map byt ++ [.int .u8 (48 + (q2 : Int) % 10)] = (T.lows n (9 * j + (t + 1))).map byt := by
              rw [show 9 * j + (t + 1) = (9 * j + t) + 1 by omega, T.lows_succ, List.map_append]
              congr 1
              have h1 := T.low_nat n (9 * j + t)
              have h2 := T.low_chunk n j t ht9
              rw [← HQ.out, ← HQ2.out] at h2
              simp only [List.map_cons, List.map_nil, byt, h1]
              rw [← h2]
              congr 2
            rw [hE] at hown1
            have hbl : wr.heap.size + 1 = (wr.alloc (.cells #[.int .u8 (48 + (q2 : Int) % 10)] 5)).heap.size := by simp
            have hA : Below w.heap.size w (wr.alloc (.cells #[.int .u8 (48 + (q2 : Int) % 10)] 5)) := HU.out.2.2.alloc HU.out.2.2.size _
            have hB5 : Below w.heap.size w w5 := hA.grown hgrow1 hA.size (by intro k hk; injection hk with hk; omega)
            have hO5 : Own w5 g L2 cap (n / 10 ^ (9 * (j + 1))) := (HU.out.2.1.alloc _).keep (hgrow1.block g (by have := HU.out.2.1.lt; omega) (by intro e; injection e with e; exact HR.out.2.2.2 e))
            have hBy5 : OwnBytes w5 gb (l * 10 + 9) (T.lows n (9 * j + (t + 1))) := by
              unfold OwnBytes
              rw [T.lows_length]
              exact hown1
            have HW := Lib.hid (And.intro hBy5 (And.intro hO5 hB5))
            clear hE hown1 hgrow1 hbl hA hB5 hO5 hBy5
            go_wp2
            go_roundw
            case rel =>
              refine ⟨t + 1, by omega, by go_num, ?_, rfl, HW.out.1, HW.out.2.1, HW.out.2.2⟩
              rw [HQ2.out, Nat.pow_succ, ← Nat.div_div_eq_div_mul]
              rfl
            case measure => simp [intOf]; omega
          · obtain rfl : t = 9 := by omega
            have HU := Lib.hid (And.intro hby (And.intro ho hb))
            clear hby ho hb
            go_wp2
            go_roundw
            case rel =>
              exact ⟨j + 1, L2, rfl, rfl, HU.out.2.1, HT.out.2, by omega, HU.out.1, HU.out.2.2⟩
            case measure => simp [lenOf]; omega
theorem digits_any {w : World} {v : Value} {z : Int} {k : Nat} (ht : Tab w) (h : IsInt w v z) (hz : z.natAbs < M.B ^ k) (hk : k ≤ 30000) :
    Calls Tryz.prog 123 #[v] w fun e w' => e = .returned (.string ⟨(Lib.decDigits z.natAbs).toArray⟩) ∧ Below w.heap.size w w' := by
  by_cases hs : z.natAbs ≤ 4611686018427387903
  · exact digits_short ht h hs
  · exact digits_long h hs hz hk
end Go.Proofs.YtjghgbfagjhdgaaGreatDoor
namespace Go.Proofs.YtjghgbfagjhdgaaGreatDoor
open Go Go.RowKit

theorem make_bytes_full (n : Nat) (hn : n ≤ 4611686018427387904 / 65536) (w : World) :
    (Instr.makeSlice 66 (.int .i64 (n : Int)) (.int .i64 (n : Int))).run Tryz.prog w = .ok (.slice (some ⟨w.heap.size, 0, none⟩) n n) (w.alloc (.cells (madeCells #[.int .u8 0] n) 5)) := by
  obtain ⟨i, hi, hz, hs, hb⟩ := info_parts info8
  have h := run_make (P := Tryz.prog) w 66 5 i _ Tryz.underlying66 hi hz .i64 .i64 n n (by omega) (by omega) (by rw [hb]; omega) (by omega)
  rw [hs] at h
  simpa [Value.cells] using h
theorem run_copy_str (w : World) (ty : TypeId) (g o dLen dCap : Nat) (s : ByteArray) (cur : Array Value) (hg : w.heap[g]? = some (.cells cur 5 (0, 0))) (hn : s.size = dLen) (hfit : o + s.size ≤ cur.size) :
    (Builtin.copy_ #[66, 9] ty #[.slice (some ⟨g, o, none⟩) dLen dCap, .string s]).run Tryz.prog w = .ok (goInt (s.size : Int)) (w.setRow g (cur.toList.take o ++ s.data.toList.map byt ++ cur.toList.drop (o + s.size)).toArray) := by
  obtain ⟨i, hi, hz, hs, hb⟩ := info_parts info8
  have hl : (s.data.toList.map byt).length = s.size := by rw [List.length_map, ← Lib.size_eq]
  have hst := run_storeCells_at Tryz.prog g o 5 (s.data.toList.map byt) 0 cur w hg (by rw [hl]; omega) (by intro v hv; obtain ⟨c, _, rfl⟩ := List.mem_map.1 hv; rfl)
  rw [hl, Nat.add_zero] at hst
  subst hn
  simp [Builtin.copy_, run_underlying Tryz.underlying66, Builtin.lenOf, Builtin.firstCells, sizeOf, typeInfo, hi]
  rw [List.take_of_length_le (by rw [List.length_map, ← Lib.size_eq]; exact Nat.le_refl _)]
  have e : (s.data.toList.map fun b => Value.int .u8 (b.toNat : Int)) = s.data.toList.map byt := rfl
  rw [e, hst, Result.andThen_ok, List.append_assoc]
theorem made_get (v : Value) {n : Nat} (h : 0 < n) : (madeCells #[v] n)[0]? = some v := by simp [madeCells, h, Nat.mod_one]
/-- The sign, and the digits copied behind it. -/
theorem text_copy (w : World) (d : List UInt8) (ty : TypeId) (hd : d.length ≤ 1000000) :
    ∃ w', (Builtin.copy_ #[66, 9] ty #[.slice (some ⟨w.heap.size, 1, none⟩) d.length d.length, .string ⟨d.toArray⟩]).run Tryz.prog (w.alloc (.cells ((madeCells #[.int .u8 0] (1 + d.length)).setIfInBounds 0 (.int .u8 45)) 5)) = .ok (goInt (d.length : Int)) w' ∧
      OwnBytes w' w.heap.size (1 + d.length) (45 :: d) ∧ Below w.heap.size w w' := by
  obtain ⟨cur, hcur⟩ : ∃ cur, cur = (madeCells #[Value.int .u8 0] (1 + d.length)).setIfInBounds 0 (.int .u8 45) := ⟨_, rfl⟩
  rw [← hcur]
  have hsz : cur.size = 1 + d.length := by rw [hcur]; simp [madeCells]
  have hg : (w.alloc (.cells cur 5)).heap[w.heap.size]? = some (.cells cur 5 (0, 0)) := heap_alloc_new w _
  have hs : (⟨d.toArray⟩ : ByteArray).size = d.length := by simp [ByteArray.size]
  have h := run_copy_str (w.alloc (.cells cur 5)) ty w.heap.size 1 d.length d.length ⟨d.toArray⟩ cur hg hs (by rw [hs, hsz]; exact Nat.le_refl _)
  rw [hs] at h
  refine ⟨_, h, ?_, ?_⟩
  · have h0 : cur.toList.take 1 = [.int .u8 45] := by
      apply List.ext_getElem?
      intro j
      match j with
      | 0 =>
        rw [List.getElem?_take, if_pos (by decide), hcur, Array.toList_setIfInBounds, List.getElem?_set_self (by simp [madeCells]; omega)]; rfl
      | j + 1 => rw [List.getElem?_eq_none (by simp; omega), List.getElem?_eq_none (by simp)]
    have h1 : cur.toList.drop (1 + d.length) = [] := List.drop_eq_nil_of_le (by simp [hsz])
    refine ⟨by simp, .inr ⟨w.heap.size, 1 + d.length, _, rfl, Nat.le_refl _, setRow_heap _ _ _ _ _ _ hg, by simp; omega, by unfold maxLen; omega, ?_, ?_⟩⟩
    · rw [h0, h1]; simp; omega
    · rw [h0, h1]; simp [byt]; exact List.take_of_length_le (by simp)
  · exact below_setRow ((Below.refl _ _).alloc (Nat.le_refl _) _) (Nat.le_refl _) _

/-- How a number is given. -/
def give (z : Int) : Value := if Lib.nDigits z.natAbs ≤ 400 then .tuple #[.string ⟨(Lib.itoa z).toArray⟩, .int .i64 0] else .tuple #[.string ⟨#[]⟩, .int .i64 3]
end Go.Proofs.YtjghgbfagjhdgaaGreatDoor
namespace Go.Proofs.YtjghgbfagjhdgaaGreatDoor
open Go Go.RowKit

set_option maxHeartbeats 400000 in
set_option maxRecDepth 100000 in
theorem valid_zero {w : World} (s : ByteArray) (h : (s.toList == [48]) = true) :
    Calls Tryz.prog 192 #[.string s] w fun e w' => e = .returned (.bool true) ∧ w = w' := by
  go_enter Tryz.func192, Tryz.ntmps192
  go_wp2
  go_ret
  exact ⟨rfl, rfl⟩
set_option maxHeartbeats 400000 in
set_option maxRecDepth 100000 in
theorem valid_short {w : World} (s : ByteArray) {d : List UInt8} (h : (s.toList == [48]) = false) (hd : Lib.trimPrefix s.data.toList [45] = d) (h0 : d = []) :
    Calls Tryz.prog 192 #[.string s] w fun e w' => e = .returned (.bool false) ∧ w = w' := by
  subst h0
  go_enter Tryz.func192, Tryz.ntmps192
  go_wp2_with fail
  refine (trim_minus s hd).mono ?_
  rintro e w1 ⟨rfl, rfl⟩
  go_wp2
  go_ret
  exact ⟨rfl, rfl⟩
set_option maxHeartbeats 400000 in
set_option maxRecDepth 100000 in
theorem valid_long {w : World} (s : ByteArray) {d : List UInt8} (h : (s.toList == [48]) = false) (hd : Lib.trimPrefix s.data.toList [45] = d) (h0 : 400 < d.length) :
    Calls Tryz.prog 192 #[.string s] w fun e w' => e = .returned (.bool false) ∧ w = w' := by
  have H := Lib.hid hd
  clear hd
  go_enter Tryz.func192, Tryz.ntmps192
  go_wp2_with fail
  refine (trim_minus s H.out).mono ?_
  rintro e w1 ⟨rfl, rfl⟩
  go_wp2
  go_ret
  exact ⟨rfl, rfl⟩
theorem trim_minus_b {w : World} (s : ByteArray) {t : ByteArray} (h2 : Lib.trimPrefix s.data.toList [45] = t.data.toList) :
    Calls Tryz.prog 215 #[.string s, .string ⟨#[45]⟩] w fun e w' => e = .returned (.string t) ∧ w = w' := by
  refine (trim_minus s h2).mono ?_
  rintro e w' ⟨rfl, rfl⟩
  exact ⟨rfl, rfl⟩
set_option maxHeartbeats 400000 in
set_option maxRecDepth 100000 in
theorem valid_lead {w : World} (s : ByteArray) {t : ByteArray} (h : (s.toList == [48]) = false) (hd : Lib.trimPrefix s.data.toList [45] = t.data.toList) (h1 : 0 < t.size) (h0 : t.size ≤ 400) (hc : ((t[0].toNat : Int) == 48) = true) :
    Calls Tryz.prog 192 #[.string s] w fun e w' => e = .returned (.bool false) ∧ w = w' := by
  have H := Lib.hid hd
  clear hd
  go_enter Tryz.func192, Tryz.ntmps192
  go_wp2_with fail
  refine (trim_minus_b s H.out).mono ?_
  rintro e w1 ⟨rfl, rfl⟩
  go_wp2
  go_ret
  exact ⟨rfl, rfl⟩
theorem byte_lt (c : UInt8) : c.toNat ≤ 255 := by have := c.toNat_lt; omega
set_option maxHeartbeats 800000 in
set_option maxRecDepth 100000 in
theorem valid_loop {w : World} (s : ByteArray) {t : ByteArray} (h : (s.toList == [48]) = false) (hd : Lib.trimPrefix s.data.toList [45] = t.data.toList) (h1 : 0 < t.size) (h0 : t.size ≤ 400) (hc : ((t[0].toNat : Int) == 48) = false) {r : Bool} (hr : r = t.data.toList.all T.digit) :
    Calls Tryz.prog 192 #[.string s] w fun e w' => e = .returned (.bool r) ∧ w = w' := by
  have H := Lib.hid hd
  have HRR := Lib.hid hr
  clear hd hr
  have hlen : t.data.toList.length = t.size := (Lib.size_eq t).symm
  go_enter Tryz.func192, Tryz.ntmps192
  go_wp2_with fail
  refine (trim_minus_b s H.out).mono ?_
  rintro e w1 ⟨rfl, rfl⟩
  have HL := Lib.hid hlen
  clear hlen
  go_wp2_with fail
  go_loop [24] (fun iv => ∃ k : Nat, k ≤ t.size ∧ iv = .int .i64 (k : Int) ∧ ∀ i c, i < k → t.data.toList[i]? = some c → T.digit c = true) (fun iv => t.size - (intOf iv).toNat)
  case atStart => exact ⟨0, Nat.zero_le _, rfl, fun i c hi _ => absurd hi (by omega)⟩
  case round =>
    obtain ⟨k, hk, rfl, hall⟩ := hrel
    have HA := Lib.hid hall
    clear hall
    by_cases hlt : k < t.size
    · obtain ⟨c, hcd⟩ : ∃ c, t[k] = c := ⟨_, rfl⟩
      have hk2 : t.data.toList[k]? = some c := by
        rw [← hcd, List.getElem?_eq_getElem (by rw [HL.out]; exact hlt)]; rfl
      have hb := byte_lt c
      have HK := Lib.hid hk2
      clear hk2
      by_cases hl : c.toNat < 48
      · have HF := Lib.hid (show r = false from by
          rw [HRR.out, List.all_eq_false]
          exact ⟨c, List.mem_of_getElem? HK.out, by rw [T.digit_iff]; omega⟩)
        go_wp2
        go_ret
        exact ⟨by rw [HF.out]; rfl, rfl⟩
      · by_cases hg : 57 < c.toNat
        · have HF := Lib.hid (show r = false from by
            rw [HRR.out, List.all_eq_false]
            exact ⟨c, List.mem_of_getElem? HK.out, by rw [T.digit_iff]; omega⟩)
          go_wp2
          go_ret
          exact ⟨by rw [HF.out]; rfl, rfl⟩
        · have HD := Lib.hid (T.digit_iff.2 (show 48 ≤ c.toNat ∧ c.toNat ≤ 57 by omega))
          go_wp2
          go_round
          case rel =>
            refine ⟨k + 1, by omega, by go_num, fun i c' hi hc' => ?_⟩
            rcases Nat.lt_or_ge i k with h2 | h2
            · exact HA.out i c' h2 hc'
            · obtain rfl : i = k := by omega
              rw [HK.out] at hc'
              injection hc' with hc'
              rw [← hc']; exact HD.out
          case measure => simp [intOf]; omega
    · obtain rfl : k = t.size := by omega
      have HF := Lib.hid (show r = true from by
        rw [HRR.out, List.all_eq_true]
        intro c hc
        obtain ⟨i, hi, he⟩ := List.mem_iff_getElem.1 hc
        exact HA.out i c (by rw [← HL.out]; exact hi) (by rw [List.getElem?_eq_getElem hi, he]))
      go_wp2
      go_ret
      exact ⟨by rw [HF.out]; rfl, rfl⟩

/-- Is a text canonical? -/
def vld (l : List UInt8) : Bool :=
  l == [48] || (decide (1 ≤ (Lib.trimPrefix l [45]).length) && decide ((Lib.trimPrefix l [45]).length ≤ 400) && !((Lib.trimPrefix l [45]).head? == some 48) && (Lib.trimPrefix l [45]).all T.digit)
theorem valid_any {w : World} (s : ByteArray) : Calls Tryz.prog 192 #[.string s] w fun e w' => e = .returned (.bool (vld s.data.toList)) ∧ w = w' := by
  unfold vld
  by_cases hz : s.data.toList = [48]
  · have h : (s.toList == [48]) = true := by rw [Lib.toList_data, hz]; rfl
    rw [hz]
    exact valid_zero s h
  · have h : (s.toList == [48]) = false := by rw [Lib.toList_data]; simpa using hz
    have h' : (s.data.toList == [48]) = false := by simpa using hz
    rw [h', Bool.false_or]
    obtain ⟨t, ht⟩ : ∃ t : ByteArray, Lib.trimPrefix s.data.toList [45] = t.data.toList := ⟨⟨(Lib.trimPrefix s.data.toList [45]).toArray⟩, by simp⟩
    have hl : t.data.toList.length = t.size := (Lib.size_eq t).symm
    rw [ht]
    by_cases h0 : t.size = 0
    · have hn : t.data.toList = [] := List.eq_nil_of_length_eq_zero (by rw [hl]; exact h0)
      rw [hn]
      exact valid_short s h (ht.trans hn) rfl
    · by_cases h4 : 400 < t.size
      · rw [decide_eq_false (show ¬ t.data.toList.length ≤ 400 by omega), Bool.and_false, Bool.false_and, Bool.false_and]
        exact valid_long s h ht (by omega)
      · have hpos : 0 < t.size := by omega
        have hhd : t.data.toList.head? = some t[0] := by
          rw [List.head?_eq_getElem?, List.getElem?_eq_getElem (by omega)]; rfl
        rw [decide_eq_true (show 1 ≤ t.data.toList.length by omega), decide_eq_true (show t.data.toList.length ≤ 400 by omega), hhd]
        by_cases h8 : t[0] = 48
        · have hc : ((t[0].toNat : Int) == 48) = true := by rw [h8]; rfl
          rw [show (some t[0] == some 48) = true by rw [h8]; rfl]
          exact valid_lead s h ht hpos (by omega) hc
        · have hc : ((t[0].toNat : Int) == 48) = false := by
            rw [beq_eq_false_iff_ne]
            intro e
            apply h8
            apply UInt8.toNat.inj
            have : t[0].toNat = 48 := by omega
            rw [this]; rfl
          rw [show (some t[0] == some 48) = false by simpa using h8]
          exact valid_loop s h ht hpos (by omega) hc (by simp)
theorem vld_itoa {z : Int} (h : Lib.nDigits z.natAbs ≤ 400) : vld (Lib.itoa z) = true := by
  unfold vld
  rw [T.itoa_trim]
  by_cases h0 : z.natAbs = 0
  · have : z = 0 := by omega
    subst this
    decide +kernel
  · have h1 : 1 ≤ (Lib.decDigits z.natAbs).length := by rw [Lib.decDigits_length]; exact Lib.nDigits_pos _
    have h2 : (Lib.decDigits z.natAbs).length ≤ 400 := by rw [Lib.decDigits_length]; exact h
    have h3 : (Lib.decDigits z.natAbs).all T.digit = true := by rw [List.all_eq_true]; exact T.decDigits_digit _
    have h4 : ((Lib.decDigits z.natAbs).head? == some 48) = false := by
      cases hd : Lib.decDigits z.natAbs with
      | nil => rfl
      | cons c r => have := T.decDigits_head (by omega) c r hd; simpa using this
    rw [decide_eq_true h1, decide_eq_true h2, h3, h4]
    simp
theorem itoa_of_vld {l : List UInt8} (h : vld l = true) : ∃ z, l = Lib.itoa z ∧ Lib.nDigits z.natAbs ≤ 400 := by
  unfold vld at h
  rw [Bool.or_eq_true] at h
  rcases h with h | h
  · refine ⟨0, ?_, by decide +kernel⟩
    have : l = [48] := by simpa using h
    rw [this]; decide +kernel
  · simp only [Bool.and_eq_true, decide_eq_true_eq, Bool.not_eq_true'] at h
    obtain ⟨⟨⟨h1, h2⟩, h3⟩, h4⟩ := h
    obtain ⟨d, hd⟩ : ∃ d, d = Lib.trimPrefix l [45] := ⟨_, rfl⟩
    rw [← hd] at h1 h2 h3 h4
    have hne : d ≠ [] := by rintro rfl; simp at h1
    have hdig : ∀ c ∈ d, T.digit c = true := List.all_eq_true.1 h4
    have hhead : ∀ c r, d = c :: r → c ≠ 48 := by
      rintro c r rfl e
      subst e
      simp at h3
    have he := T.decDigits_num d hdig hne hhead
    have hnd : Lib.nDigits (T.num d) ≤ 400 := by rw [← Lib.decDigits_length, he]; exact h2
    have hnz : 0 < T.num d := by
      rcases Nat.eq_zero_or_pos (T.num d) with h0 | h0
      · exfalso
        rw [h0] at he
        cases hq : d with
        | nil => exact hne hq
        | cons c r =>
          rw [hq] at he
          have e0 : Lib.decDigits 0 = [48] := by decide +kernel
          rw [e0] at he
          injection he with e1 _
          exact hhead c r hq e1.symm
      · exact h0
    unfold Lib.trimPrefix at hd
    by_cases hp : Lib.hasPrefix l [45] = true
    · rw [if_pos hp] at hd
      refine ⟨-(T.num d : Int), ?_, by rw [show (-(T.num d : Int)).natAbs = T.num d by omega]; exact hnd⟩
      rw [T.itoa_neg (by omega), show (-(T.num d : Int)).natAbs = T.num d by omega, he, hd]
      unfold Lib.hasPrefix at hp
      cases l with
      | nil => simp at hp
      | cons c r =>
        have : (45 : UInt8) = c := by simpa [List.isPrefixOf] using hp
        rw [← this]; rfl
    · rw [if_neg hp] at hd
      refine ⟨(T.num d : Int), ?_, by rw [show ((T.num d : Int)).natAbs = T.num d by omega]; exact hnd⟩
      rw [T.itoa_nonneg (by omega), show ((T.num d : Int)).natAbs = T.num d by omega, he, hd]
end Go.Proofs.YtjghgbfagjhdgaaGreatDoor
