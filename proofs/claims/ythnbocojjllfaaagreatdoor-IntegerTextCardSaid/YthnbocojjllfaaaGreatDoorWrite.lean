/- integer.write. -/
import Derived.Test.YthnbocojjllfaaaGreatDoorDigitsB
import Derived.Laws.CopyOwn
namespace Go.Proofs.YthnbocojjllfaaaGreatDoor
open Go Go.RowKit

theorem make_bytes_full (n : Nat) (hn : n ≤ 4611686018427387904 / 65536) (w : World) :
    (Instr.makeSlice 74 (.int .i64 (n : Int)) (.int .i64 (n : Int))).run Tryz.prog w = .ok (.slice (some ⟨w.heap.size, 0, none⟩) n n) (w.alloc (.cells (madeCells #[.int .u8 0] n) 5)) := by
  obtain ⟨i, hi, hz, hs, hb⟩ := info_parts info8
  have h := run_make (P := Tryz.prog) w 74 5 i _ Tryz.underlying74 hi hz .i64 .i64 n n (by omega) (by omega) (by rw [hb]; omega) (by omega)
  rw [hs] at h
  simpa [Value.cells] using h
theorem run_copy_str (w : World) (ty : TypeId) (g o dLen dCap : Nat) (s : ByteArray) (cur : Array Value) (hg : w.heap[g]? = some (.cells cur 5 (0, 0))) (hn : s.size = dLen) (hfit : o + s.size ≤ cur.size) :
    (Builtin.copy_ #[74, 9] ty #[.slice (some ⟨g, o, none⟩) dLen dCap, .string s]).run Tryz.prog w = .ok (goInt (s.size : Int)) (w.setRow g (cur.toList.take o ++ s.data.toList.map byt ++ cur.toList.drop (o + s.size)).toArray) := by
  obtain ⟨i, hi, hz, hs, hb⟩ := info_parts info8
  have hl : (s.data.toList.map byt).length = s.size := by rw [List.length_map, ← Lib.size_eq]
  have hst := run_storeCells_at Tryz.prog g o 5 (s.data.toList.map byt) 0 cur w hg (by rw [hl]; omega) (by intro v hv; obtain ⟨c, _, rfl⟩ := List.mem_map.1 hv; rfl)
  rw [hl, Nat.add_zero] at hst
  subst hn
  simp [Builtin.copy_, run_underlying Tryz.underlying74, Builtin.lenOf, Builtin.firstCells, sizeOf, typeInfo, hi]
  rw [List.take_of_length_le (by rw [List.length_map, ← Lib.size_eq]; exact Nat.le_refl _)]
  have e : (s.data.toList.map fun b => Value.int .u8 (b.toNat : Int)) = s.data.toList.map byt := rfl
  rw [e, hst, Result.andThen_ok, List.append_assoc]
theorem made_get (v : Value) {n : Nat} (h : 0 < n) : (madeCells #[v] n)[0]? = some v := by simp [madeCells, h, Nat.mod_one]
/-- The sign, and the digits copied behind it. -/
theorem text_copy (w : World) (d : List UInt8) (ty : TypeId) (hd : d.length ≤ 1000000) :
    ∃ w', (Builtin.copy_ #[74, 9] ty #[.slice (some ⟨w.heap.size, 1, none⟩) d.length d.length, .string ⟨d.toArray⟩]).run Tryz.prog (w.alloc (.cells ((madeCells #[.int .u8 0] (1 + d.length)).setIfInBounds 0 (.int .u8 45)) 5)) = .ok (goInt (d.length : Int)) w' ∧
      OwnBytes w' w.heap.size (1 + d.length) (45 :: d) ∧ Below w.heap.size w w' := by
  obtain ⟨cur, hcur⟩ : ∃ cur, cur = (madeCells #[Value.int .u8 0] (1 + d.length)).setIfInBounds 0 (.int .u8 45) := ⟨_, rfl⟩
  rw [← hcur]
  have hsz : cur.size = 1 + d.length := by rw [hcur]; simp [madeCells]
  have hg : (w.alloc (.cells cur 5)).heap[w.heap.size]? = some (.cells cur 5 (0, 0)) := heap_alloc_new w _
  have hs : (⟨d.toArray⟩ : ByteArray).size = d.length := by simp [ByteArray.size]
  have h := run_copy_str (w.alloc (.cells cur 5)) ty w.heap.size 1 d.length d.length ⟨d.toArray⟩ cur hg hs (by rw [hs, hsz]; exact Nat.le_refl _)
  rw [hs] at h
  refine ⟨_, h, ?_, ?_⟩
  · have h0 : cur.toList.take 1 = [.int .u8 45] := by
      apply List.ext_getElem?
      intro j
      match j with
      | 0 =>
        rw [List.getElem?_take, if_pos (by decide), hcur, Array.toList_setIfInBounds, List.getElem?_set_self (by simp [madeCells]; omega)]; rfl
      | j + 1 => rw [List.getElem?_eq_none (by simp; omega), List.getElem?_eq_none (by simp)]
    have h1 : cur.toList.drop (1 + d.length) = [] := List.drop_eq_nil_of_le (by simp [hsz])
    refine ⟨by simp, .inr ⟨w.heap.size, 1 + d.length, _, rfl, Nat.le_refl _, setRow_heap _ _ _ _ _ _ hg, by simp; omega, by unfold maxLen; omega, ?_, ?_⟩⟩
    · rw [h0, h1]; simp; omega
    · rw [h0, h1]; simp [byt]; exact List.take_of_length_le (by simp)
  · exact below_setRow ((Below.refl _ _).alloc (Nat.le_refl _) _) (Nat.le_refl _) _

set_option maxHeartbeats 1600000 in
set_option maxRecDepth 100000 in
theorem write_neg {w : World} {v : Value} {z : Int} {k : Nat} (ht : Tab w) (h : IsInt w v z) (hz : z.natAbs < M.B ^ k) (hk : k ≤ 30000) (hd : Lib.nDigits z.natAbs ≤ 400) (hneg : z < 0) :
    Calls Tryz.prog 100 #[v] w fun e w' => e = .returned (.tuple #[.string ⟨(Lib.itoa z).toArray⟩, .int .i64 0]) ∧ Below w.heap.size w w' := by
  have HT := Lib.hid ht
  clear ht
  obtain ⟨sg, hsg⟩ : ∃ sg, sg = wrd z := ⟨_, rfl⟩
  obtain ⟨A, l, c, rfl, hs⟩ := h.shape_s hsg
  have hsz := T.itoa_neg hneg
  have hsn : ¬ 0 ≤ sgn z := by unfold sgn; rw [if_pos hneg]; omega
  obtain ⟨d, hdd⟩ : ∃ d, d = Lib.decDigits z.natAbs := ⟨_, rfl⟩
  have hdl : d.length ≤ 400 := by rw [hdd, Lib.decDigits_length]; exact hd
  have hb0 : Below w.heap.size w (w.alloc (.cells #[.int .i64 sg, .slice A l c] 81)) := (Below.refl _ _).alloc (Nat.le_refl _) _
  have H := Lib.hid (And.intro (h.below hb0 (Nat.le_refl _)) (And.intro hb0 (And.intro hsz (And.intro hdd hd))))
  have hdp : 1 ≤ d.length := by rw [hdd, Lib.decDigits_length]; exact Lib.nDigits_pos _
  have hd0 : ¬ d = [] := by rintro rfl; simp at hdp
  have hm0 := made_get (.int .u8 0) (show 0 < 1 + d.length by omega)
  have hmk := make_bytes_full (1 + d.length) (by omega)
  rw [show ((1 + d.length : Nat) : Int) = 1 + (d.length : Int) by omega] at hmk
  clear h hs hsz hdd hb0 hneg hsg hd
  go_enter Tryz.func100, Tryz.ntmps100
  have hc0 : (w.alloc (.cells #[.int .i64 sg, .slice A l c] 81)).cell? ⟨w.heap.size, 0, none⟩ = some (.int .i64 sg) := by go_cell
  have hc1 : (w.alloc (.cells #[.int .i64 sg, .slice A l c] 81)).cell? ⟨w.heap.size, 1, none⟩ = some (.slice A l c) := by go_cell
  have hsz0 : w.heap.size < (w.alloc (.cells #[.int .i64 sg, .slice A l c] 81)).heap.size := by simp
  have HC := Lib.hid (And.intro hc0 (And.intro hc1 hsz0))
  clear hc0 hc1 hsz0
  go_wp2_with fail
  refine (digits_any (HT.out.below H.out.2.1) H.out.1 hz hk).mono ?_
  rw [← H.out.2.2.2.1]
  rintro e w1 ⟨rfl, hb1⟩
  have hc0 : w1.cell? ⟨w.heap.size, 0, none⟩ = some (.int .i64 sg) := (hb1.cell HC.out.2.2).trans HC.out.1
  have hc1 : w1.cell? ⟨w.heap.size, 1, none⟩ = some (.slice A l c) := (hb1.cell HC.out.2.2).trans HC.out.2.1
  have H1 := Lib.hid (And.intro (H.out.1.below hb1 (Nat.le_refl _)) (H.out.2.1.trans (hb1.mono H.out.2.1.size)))
  clear hb1
  go_wp2_with fail
  refine (sign_any H1.out.1).mono ?_
  rintro e w2 ⟨rfl, hb2⟩
  have H2 := Lib.hid (H1.out.2.trans (hb2.mono H1.out.2.size))
  clear hb2 hc0 hc1
  obtain ⟨w4, hcp, hby, hb4⟩ := text_copy w2 d 3 (by omega)
  have hcv := conv_own hby (show 1 + d.length = (45 :: d).length by simp; omega) 25 Tryz.underlying25
  rw [show (45 :: d) = Lib.itoa z by rw [H.out.2.2.1, H.out.2.2.2.1]] at hcv
  have H4 := Lib.hid (H2.out.trans (hb4.mono H2.out.size))
  clear hby hb4
  go_wp2
  go_ret2
  exact ⟨rfl, H4.out⟩

set_option maxHeartbeats 1600000 in
set_option maxRecDepth 100000 in
theorem write_pos {w : World} {v : Value} {z : Int} {k : Nat} (ht : Tab w) (h : IsInt w v z) (hz : z.natAbs < M.B ^ k) (hk : k ≤ 30000) (hd : Lib.nDigits z.natAbs ≤ 400) (hpos : ¬ z < 0) :
    Calls Tryz.prog 100 #[v] w fun e w' => e = .returned (.tuple #[.string ⟨(Lib.itoa z).toArray⟩, .int .i64 0]) ∧ Below w.heap.size w w' := by
  have HT := Lib.hid ht
  clear ht
  obtain ⟨sg, hsg⟩ : ∃ sg, sg = wrd z := ⟨_, rfl⟩
  obtain ⟨A, l, c, rfl, hs⟩ := h.shape_s hsg
  have hsn : 0 ≤ sgn z := by unfold sgn; rw [if_neg hpos]; split <;> omega
  obtain ⟨d, hdd⟩ : ∃ d, d = Lib.decDigits z.natAbs := ⟨_, rfl⟩
  have hdl : d.length ≤ 400 := by rw [hdd, Lib.decDigits_length]; exact hd
  have hb0 : Below w.heap.size w (w.alloc (.cells #[.int .i64 sg, .slice A l c] 81)) := (Below.refl _ _).alloc (Nat.le_refl _) _
  have H := Lib.hid (And.intro (h.below hb0 (Nat.le_refl _)) (And.intro hb0 (And.intro (T.itoa_nonneg hpos) hdd)))
  clear h hs hdd hb0 hpos hsg hd
  have hc0 : (w.alloc (.cells #[.int .i64 sg, .slice A l c] 81)).cell? ⟨w.heap.size, 0, none⟩ = some (.int .i64 sg) := by go_cell
  have hc1 : (w.alloc (.cells #[.int .i64 sg, .slice A l c] 81)).cell? ⟨w.heap.size, 1, none⟩ = some (.slice A l c) := by go_cell
  have hsz0 : w.heap.size < (w.alloc (.cells #[.int .i64 sg, .slice A l c] 81)).heap.size := by simp
  have HC := Lib.hid (And.intro hc0 (And.intro hc1 hsz0))
  clear hc0 hc1 hsz0
  go_enter Tryz.func100, Tryz.ntmps100
  go_wp2_with fail
  refine (digits_any (HT.out.below H.out.2.1) H.out.1 hz hk).mono ?_
  rw [← H.out.2.2.2]
  rintro e w1 ⟨rfl, hb1⟩
  have hc0 : w1.cell? ⟨w.heap.size, 0, none⟩ = some (.int .i64 sg) := (hb1.cell HC.out.2.2).trans HC.out.1
  have hc1 : w1.cell? ⟨w.heap.size, 1, none⟩ = some (.slice A l c) := (hb1.cell HC.out.2.2).trans HC.out.2.1
  have H1 := Lib.hid (And.intro (H.out.1.below hb1 (Nat.le_refl _)) (H.out.2.1.trans (hb1.mono H.out.2.1.size)))
  clear hb1
  go_wp2_with fail
  refine (sign_any H1.out.1).mono ?_
  rintro e w2 ⟨rfl, hb2⟩
  have H2 := Lib.hid (H1.out.2.trans (hb2.mono H1.out.2.size))
  clear hb2 hc0 hc1
  go_wp2
  go_ret2
  refine ⟨?_, H2.out⟩
  rw [H.out.2.2.1, ← H.out.2.2.2]
  rfl
set_option maxHeartbeats 1600000 in
set_option maxRecDepth 100000 in
theorem write_big {w : World} {v : Value} {z : Int} {k : Nat} (ht : Tab w) (h : IsInt w v z) (hz : z.natAbs < M.B ^ k) (hk : k ≤ 30000) (hd : 400 < Lib.nDigits z.natAbs) :
    Calls Tryz.prog 100 #[v] w fun e w' => e = .returned (.tuple #[.string ⟨#[]⟩, .int .i64 3]) ∧ Below w.heap.size w w' := by
  have HT := Lib.hid ht
  clear ht
  obtain ⟨sg, hsg⟩ : ∃ sg, sg = wrd z := ⟨_, rfl⟩
  obtain ⟨A, l, c, rfl, hs⟩ := h.shape_s hsg
  obtain ⟨d, hdd⟩ : ∃ d, d = Lib.decDigits z.natAbs := ⟨_, rfl⟩
  have hdl : 400 < d.length := by rw [hdd, Lib.decDigits_length]; exact hd
  have hb0 : Below w.heap.size w (w.alloc (.cells #[.int .i64 sg, .slice A l c] 81)) := (Below.refl _ _).alloc (Nat.le_refl _) _
  have H := Lib.hid (And.intro (h.below hb0 (Nat.le_refl _)) (And.intro hb0 hdd))
  clear h hs hdd hb0 hsg hd
  go_enter Tryz.func100, Tryz.ntmps100
  go_wp2_with fail
  refine (digits_any (HT.out.below H.out.2.1) H.out.1 hz hk).mono ?_
  rw [← H.out.2.2]
  rintro e w1 ⟨rfl, hb1⟩
  have H1 := Lib.hid (H.out.2.1.trans (hb1.mono H.out.2.1.size))
  clear hb1
  go_wp2
  go_ret2
  exact ⟨rfl, H1.out⟩
/-- How a number is given. -/
def give (z : Int) : Value := if Lib.nDigits z.natAbs ≤ 400 then .tuple #[.string ⟨(Lib.itoa z).toArray⟩, .int .i64 0] else .tuple #[.string ⟨#[]⟩, .int .i64 3]
theorem write_any {w : World} {v : Value} {z : Int} {k : Nat} (ht : Tab w) (h : IsInt w v z) (hz : z.natAbs < M.B ^ k) (hk : k ≤ 30000) :
    Calls Tryz.prog 100 #[v] w fun e w' => e = .returned (give z) ∧ Below w.heap.size w w' := by
  unfold give
  by_cases hd : Lib.nDigits z.natAbs ≤ 400
  · rw [if_pos hd]
    by_cases h0 : z < 0
    · exact write_neg ht h hz hk hd h0
    · exact write_pos ht h hz hk hd h0
  · rw [if_neg hd]
    exact write_big ht h hz hk (by omega)
end Go.Proofs.YthnbocojjllfaaaGreatDoor
