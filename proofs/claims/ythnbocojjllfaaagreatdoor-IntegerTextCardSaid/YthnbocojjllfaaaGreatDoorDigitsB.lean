/- Digits. -/
import Derived.Test.YthnbocojjllfaaaGreatDoorDigits
import Derived.Test.YthnbocojjllfaaaGreatDoorUint
import Derived.Test.YthnbocojjllfaaaGreatDoorIntB
import Derived.Laws.IdiomStrings
namespace Go.Proofs.YthnbocojjllfaaaGreatDoor
open Go Go.RowKit

theorem info8 : (Tryz.prog.info? 5).map (fun i => (i.zero, i.size, i.bytes)) = some (some (.int .u8 0), 1, 1) := by kernel_rfl
theorem make_bytes (n : Nat) (hn : n ≤ 4611686018427387904 / 65536) (w : World) :
    (Instr.makeSlice 74 (.int .i64 0) (.int .i64 (n : Int))).run Tryz.prog w = .ok (.slice (some ⟨w.heap.size, 0, none⟩) 0 n) (w.alloc (.cells (madeCells #[.int .u8 0] n) 5)) := by
  obtain ⟨i, hi, hz, hs, hb⟩ := info_parts info8
  have h := run_make (P := Tryz.prog) w 74 5 i _ Tryz.underlying74 hi hz .i64 .i64 0 n (by omega) (by omega) (by rw [hb]; omega) (by omega)
  rw [hs] at h
  simpa [Value.cells] using h
theorem bytes_new (w : World) (n : Nat) (hn : n ≤ maxLen) : OwnBytes (w.alloc (.cells (madeCells #[.int .u8 0] n) 5)) w.heap.size n [] :=
  World.ownsRow_made w (madeCells #[.int .u8 0] n) n (Nat.le_refl _) hn (by simp [madeCells])
theorem conv_own {w : World} {g cap n : Nat} {l : List UInt8} (h : OwnBytes w g cap l) (hn : n = l.length) (dst : TypeId) (hd : Tryz.prog.underlying dst = some .string) :
    (convert 74 dst (.slice (some ⟨g, 0, none⟩) n cap)).run Tryz.prog w = .ok (.string ⟨l.toArray⟩) w := by
  subst hn
  refine run_convert_bytes_back (P := Tryz.prog) w 74 dst 5 ⟨g, 0, none⟩ cap l Tryz.underlying74 Tryz.underlying5 hd (fun j hj => ?_)
  rw [show ((⟨g, 0, none⟩ : Addr).add j) = ⟨g, j, none⟩ by unfold Addr.add; split <;> simp_all]
  exact h.cell (by simp [hj])
theorem trim_zeros {w : World} {l d : List UInt8} (hd : l.dropWhile (· == 48) = d) :
    Calls Tryz.prog 186 #[.string ⟨l.toArray⟩, .string ⟨#[48]⟩] w fun e w' => e = .returned (.string ⟨d.toArray⟩) ∧ w = w' := by
  subst hd
  refine (Tryz.strings_TrimLeft_one ⟨l.toArray⟩ 48 (by decide) w).mono ?_
  rintro e w1 ⟨rfl, rfl⟩
  exact ⟨rfl, rfl⟩
theorem own_ne {w : World} {g L cap n g' cap' : Nat} {l : List UInt8} (h : Own w g L cap n) (h' : OwnBytes w g' cap' l) : g ≠ g' := by
  rintro rfl
  obtain ⟨c1, e1, _⟩ := h.block
  obtain ⟨c2, e2, _⟩ := h'.block
  rw [e1] at e2
  injection e2 with e2
  injection e2 with _ e3
  exact absurd e3 (by decide)
theorem pow_ten (l : Nat) : M.B ^ l ≤ 10 ^ (10 * l) := by
  rw [Nat.pow_mul]
  exact Nat.pow_le_pow_left (by rw [M.B_eq]; decide) l

set_option maxHeartbeats 800000 in
theorem digits_short {w : World} {v : Value} {z : Int} (ht : Tab w) (h : IsInt w v z) (hz : z.natAbs ≤ 4611686018427387903) :
    Calls Tryz.prog 158 #[v] w fun e w' => e = .returned (.string ⟨(Lib.decDigits z.natAbs).toArray⟩) ∧ Below w.heap.size w w' := by
  have HH := Lib.hid (And.intro ht (And.intro h hz))
  obtain ⟨A, l, c, rfl, hs⟩ := h.shape_s (wrd_short hz).symm
  have z1 : -9223372036854775808 ≤ z := by omega
  have z2 : z ≤ 9223372036854775807 := by omega
  have hb0 : Below w.heap.size w (w.alloc (.cells #[.int .i64 z, .slice A l c] 81)) := (Below.refl _ _).alloc (Nat.le_refl _) _
  have hc0 : (w.alloc (.cells #[.int .i64 z, .slice A l c] 81)).cell? ⟨w.heap.size, 0, none⟩ = some (.int .i64 z) := by go_cell
  have hc1 : (w.alloc (.cells #[.int .i64 z, .slice A l c] 81)).cell? ⟨w.heap.size, 1, none⟩ = some (.slice A l c) := by go_cell
  have hsz0 : w.heap.size < (w.alloc (.cells #[.int .i64 z, .slice A l c] 81)).heap.size := by simp
  have HC := Lib.hid (And.intro hc0 (And.intro hc1 (And.intro hsz0 hb0)))
  clear hc0 hc1 hsz0 hb0 ht h hz hs
  go_enter Tryz.func158, Tryz.ntmps158
  go_wp2_with fail
  generalize w.alloc (.cells #[.int .i64 z, .slice A l c] 81) = w0 at *
  refine (short_yes (HH.out.2.1.below HC.out.2.2.2 (Nat.le_refl _)) HH.out.2.2).mono ?_
  rintro e w1 ⟨rfl, hb1⟩
  have hc0 := (hb1.cell HC.out.2.2.1).trans HC.out.1
  have H1 := Lib.hid (HC.out.2.2.2.trans (hb1.mono HC.out.2.2.2.size))
  clear hb1
  go_wp2_with fail
  refine (magnitude_any z z1 z2).mono ?_
  rintro e w2 ⟨rfl, rfl⟩
  obtain ⟨u, hu⟩ : ∃ u, u = z.natAbs := ⟨_, rfl⟩
  rw [← hu]
  have hu1 : u < 18446744073709551616 := by omega
  have HU := Lib.hid hu
  clear hu hc0
  go_wp2_with fail
  refine (uint_any u hu1 w1 (HH.out.1.below H1.out)).mono ?_
  rintro e w2 ⟨rfl, hb2⟩
  go_wp2
  go_ret
  exact ⟨by rw [← HU.out]; rfl, H1.out.trans (hb2.mono H1.out.size)⟩

set_option maxHeartbeats 1600000 in
set_option maxRecDepth 100000 in
theorem digits_long {w : World} {v : Value} {z : Int} {k : Nat} (h : IsInt w v z) (hlong : ¬ z.natAbs ≤ 4611686018427387903) (hz : z.natAbs < M.B ^ k) (hk : k ≤ 30000) :
    Calls Tryz.prog 158 #[v] w fun e w' => e = .returned (.string ⟨(Lib.decDigits z.natAbs).toArray⟩) ∧ Below w.heap.size w w' := by
  have HH := Lib.hid (And.intro h hlong)
  obtain ⟨sg, hsg⟩ : ∃ sg, sg = wrd z := ⟨_, rfl⟩
  obtain ⟨A, l, c, rfl, hs0⟩ := h.shape_s hsg
  have hpos := (hs0.2 hlong).1
  have hs := (hs0.2 hlong).2
  obtain ⟨A', l', c', e, hl, hm, hlk, _, _⟩ := hs.open_ hz
  injection e with e1 e2 e3
  subst e1 e2 e3
  have hn0 : 0 < z.natAbs := by omega
  clear h hsg hs hz hs0 hlong
  obtain ⟨b, off, rfl, _⟩ := hl.2 (by omega)
  have HZ : ∃ n, n = z.natAbs := ⟨_, rfl⟩
  obtain ⟨n, hnz⟩ := HZ
  rw [← hnz] at hl hm hn0
  rw [← hnz]
  have hl0 := hl.alloc (.cells #[.int .i64 sg, .slice (some ⟨b, off, none⟩) l c] 81)
  have hb0 : Below w.heap.size w (w.alloc (.cells #[.int .i64 sg, .slice (some ⟨b, off, none⟩) l c] 81)) := (Below.refl _ _).alloc (Nat.le_refl _) _
  have hc1 : (w.alloc (.cells #[.int .i64 sg, .slice (some ⟨b, off, none⟩) l c] 81)).cell? ⟨w.heap.size, 1, none⟩ = some (.slice (some ⟨b, off, none⟩) l c) := by go_cell
  have hsz0 : w.heap.size < (w.alloc (.cells #[.int .i64 sg, .slice (some ⟨b, off, none⟩) l c] 81)).heap.size := by simp
  have HC := Lib.hid (And.intro hc1 (And.intro hsz0 (And.intro hb0 hl0)))
  have HM := Lib.hid hm
  have HN := Lib.hid (And.intro hn0 hl.1)
  have hmk := make_bytes (l * 10 + 9) (by omega)
  rw [show ((l * 10 + 9 : Nat) : Int) = (l : Int) * 10 + 9 by omega] at hmk
  clear hl hm hl0 hb0 hn0 hc1 hsz0 hnz
  focus
    go_enter Tryz.func158, Tryz.ntmps158
    go_wp2_with fail
    generalize w.alloc (.cells #[.int .i64 sg, .slice (some ⟨b, off, none⟩) l c] 81) = w0 at *
    refine (short_no (HH.out.1.below HC.out.2.2.1 (Nat.le_refl _)) HH.out.2).mono ?_
    rintro e ws ⟨rfl, hbs⟩
    have hc1 := (hbs.cell HC.out.2.1).trans HC.out.1
    have H := Lib.hid (And.intro (HC.out.2.2.2.below hbs (Nat.le_refl _)) (And.intro (HC.out.2.2.1.trans (hbs.mono HC.out.2.2.1.size)) HN.out))
    clear hbs
    go_wp2_with fail
    refine (clone_any H.out.1 hpos (by omega)).mono ?_
    rintro e w1 ⟨g, cap, rfl, ho, hg, hb1⟩
    have H1 := Lib.hid (And.intro ho (And.intro hg (H.out.2.1.trans (hb1.mono H.out.2.1.size))))
    clear ho hg hb1
    go_wp2_with fail
    have hby := bytes_new w1 (l * 10 + 9) (by unfold maxLen; omega)
    have hb2 : Below w.heap.size w (w1.alloc (.cells (madeCells #[.int .u8 0] (l * 10 + 9)) 5)) := H1.out.2.2.alloc H1.out.2.2.size _
    have ho2 := H1.out.1.alloc (.cells (madeCells #[.int .u8 0] (l * 10 + 9)) 5)
    have hgb : w.heap.size ≤ w1.heap.size := H1.out.2.2.size
    have hg2 : w.heap.size ≤ g := Nat.le_trans H.out.2.1.size H1.out.2.1
    clear hmk
    generalize w1.alloc (.cells (madeCells #[.int .u8 0] (l * 10 + 9)) 5) = w2 at *
    generalize w1.heap.size = gb at *
    have H2 := Lib.hid (And.intro ho2 (And.intro hby hb2))
    clear ho2 hby hb2
    go_loopw [3, 4] (fun rv lv wr => ∃ j L' : Nat, rv = .slice (some ⟨g, 0, none⟩) L' cap ∧ lv = .slice (some ⟨gb, 0, none⟩) (9 * j) (l * 10 + 9) ∧ Own wr g L' cap (n / 10 ^ (9 * j)) ∧ (L' = 0 ∨ M.B ^ (L' - 1) ≤ n / 10 ^ (9 * j)) ∧ L' ≤ l ∧
        OwnBytes wr gb (l * 10 + 9) (T.lows n (9 * j)) ∧ Below w.heap.size w wr) (fun _ lv _ => l * 10 + 9 - lenOf lv)
    case atStart => exact ⟨0, l, rfl, rfl, by simpa using H2.out.1, by simpa using HM.out, Nat.le_refl _, H2.out.2.1, H2.out.2.2⟩
    case round =>
      obtain ⟨j, L', rfl, rfl, ho, hm, hL', hby, hb⟩ := hrel
      by_cases h0 : L' = 0
      · subst h0
        have hn0 : n / 10 ^ (9 * j) = 0 := by have := ho.2; simpa using this
        have hlt : n < 10 ^ (9 * j) := by
          rcases Nat.lt_or_ge n (10 ^ (9 * j)) with h | h
          · exact h
          · have := Nat.div_pos h (Nat.pow_pos (by decide)); omega
        have hw := T.written H.out.2.2.1 hlt
        have hlen := T.lows_length n (9 * j)
        obtain ⟨ls, hls⟩ : ∃ ls, ls = T.lows n (9 * j) := ⟨_, rfl⟩
        rw [← hls] at hby hw hlen
        rw [← hlen]
        have hll : ls.length ≤ l * 10 + 9 := by obtain ⟨_, _, h, _⟩ := hby.block; exact h
        have HR := Lib.hid (And.intro hby (And.intro hb hw))
        clear ho hm hby hb hw hn0 hlt hls hlen
        go_wp2_with fail
        refine (reverse_any HR.out.1 (by omega)).mono ?_
        rintro e w3 ⟨rfl, hby3, hg3⟩
        obtain ⟨rs, hrs⟩ : ∃ rs, rs = ls.reverse := ⟨_, rfl⟩
        rw [← hrs] at hby3
        have hcv := conv_own hby3 (show ls.length = rs.length by rw [hrs]; simp) 9 Tryz.underlying9
        have hw := HR.out.2.2
        rw [← hrs] at hw
        have hb3 : Below w.heap.size w w3 := HR.out.2.1.grown hg3 HR.out.2.1.size (by intro k hk; injection hk with hk; omega)
        have HS := Lib.hid (And.intro hb3 hw)
        clear hby3 hg3 hw hb3 hrs
        go_wp2_with fail
        refine (trim_zeros HS.out.2).mono ?_
        rintro e w4 ⟨rfl, rfl⟩
        go_wp2
        go_ret
        exact ⟨rfl, HS.out.1⟩
      · have hL0 : 0 < L' := by omega
        have hm2 : M.B ^ (L' - 1) ≤ n / 10 ^ (9 * j) := by
          rcases hm with h | h
          · omega
          · exact h
        have hj9 : 9 * j < 10 * l := by
          have h1 := M.pow_pos (L' - 1)
          have h2 : 10 ^ (9 * j) ≤ n := by
            rcases Nat.lt_or_ge n (10 ^ (9 * j)) with h3 | h3
            · rw [Nat.div_eq_of_lt h3] at hm2; omega
            · exact h3
          have h3 := Nat.lt_of_le_of_lt h2 (Nat.lt_of_lt_of_le H.out.2.2.2 (pow_ten l))
          exact (Nat.pow_lt_pow_iff_right (by decide)).1 h3
        have hne := own_ne ho hby
        have HR := Lib.hid (And.intro ho (And.intro hby (And.intro hb hne)))
        clear ho hm hby hb hne hm2 h0
        go_wp2_with fail
        refine (setQuotient_own (y := 1000000000) HR.out.1 (by decide) (by decide) (by omega)).mono ?_
        rintro e w3 ⟨rfl, ho3, hg3⟩
        have hby3 := HR.out.2.1.keep (hg3.block gb HR.out.2.1.lt (by intro e; injection e with e; exact HR.out.2.2.2 e.symm))
        have hb3 : Below w.heap.size w w3 := HR.out.2.2.1.grown hg3 HR.out.2.2.1.size (by intro k hk; injection hk with hk; omega)
        rw [T.rest_chunk] at ho3
        have HS := Lib.hid (And.intro ho3 (And.intro hby3 hb3))
        clear ho3 hby3 hb3 hg3
        obtain ⟨q, hq⟩ : ∃ q, q = n / 10 ^ (9 * j) % 1000000000 := ⟨_, rfl⟩
        rw [← hq]
        have hq9 : q ≤ 999999999 := by omega
        have HQ := Lib.hid hq
        clear hq
        go_wp2_with fail
        obtain ⟨cur, hcur, hLc, hcm⟩ := HS.out.1.block
        unfold maxLen at hcm
        have HCU := Lib.hid hcur
        clear hcur
        refine (trim_core HS.out.1.limbs hLc (by omega)).mono ?_
        rintro e w4 ⟨L2, rfl, hL2, hn2, hm2, rfl⟩
        have HT := Lib.hid (And.intro (HS.out.1.cut hL2 hn2) hm2)
        clear hn2 hm2
        go_wp2_with fail
        obtain ⟨wo, rfl⟩ : ∃ wo : World, wo = w3 := ⟨_, rfl⟩
        go_loopw [4, 5, 28] (fun lv cv tv wr => ∃ t : Nat, t ≤ 9 ∧ tv = .int .i64 (t : Int) ∧ cv = .int .u32 ((q / 10 ^ t : Nat) : Int) ∧ lv = .slice (some ⟨gb, 0, none⟩) (9 * j + t) (l * 10 + 9) ∧ OwnBytes wr gb (l * 10 + 9) (T.lows n (9 * j + t)) ∧ Own wr g L2 cap (n / 10 ^ (9 * (j + 1))) ∧ Below w.heap.size w wr) (fun _ _ tv _ => 9 - (intOf tv).toNat)
        case atStart => exact ⟨0, by omega, rfl, by simp, rfl, HS.out.2.1, HT.out.1, HS.out.2.2⟩
        case round =>
          obtain ⟨t, ht, rfl, rfl, rfl, hby, ho, hb⟩ := hrel
          by_cases ht9 : t < 9
          · have HU := Lib.hid (And.intro hby (And.intro ho hb))
            clear hby ho hb
            obtain ⟨ei, hi0, hz0, hz1, hz2⟩ := info_parts info8
            have HI := Lib.hid (And.intro hi0 hz1)
            clear hi0 hz0 hz1 hz2
            obtain ⟨q2, hq2⟩ : ∃ q2, q2 = q / 10 ^ t := ⟨_, rfl⟩
            rw [← hq2]
            have hq3 : q2 ≤ 999999999 := by rw [hq2]; exact Nat.le_trans (Nat.div_le_self _ _) hq9
            have HQ2 := Lib.hid hq2
            clear hq2
            have hown : wr.ownsRow gb 5 1 (.slice (some ⟨gb, 0, none⟩) (9 * j + t) (l * 10 + 9)) (9 * j + t) ((T.lows n (9 * j + t)).map byt) := by
              have h := HU.out.1
              unfold OwnBytes at h
              rwa [T.lows_length] at h
            have hgbl := HU.out.1.lt
            have HO := Lib.hid hown
            clear hown
            go_wp2_with (at_builtin; refine wpList_append_fits _ rfl (.tmp 30) (.tmp 35) _ rfl gb 5 ei 1 Tryz.underlying74 HI.out.1 HI.out.2 gb (9 * j + t) (l * 10 + 9) ((T.lows n (9 * j + t)).map byt) rfl (HO.out.alloc _) ⟨wr.heap.size, 0, none⟩ 1 1 [.int .u8 (48 + (q2 : Int) % 10)] rfl rfl (by intro j u hj; match j, hj with | 0, hj => simp at hj; subst hj; simp [Addr.add]) (by intro u hu; simp at hu; subst hu; rfl) (by omega) ?_; intro w5 hown1 hgrow1)
            have hE : (T.lows n (9 * j + t)).map byt ++ [.int .u8 (48 + (q2 : Int) % 10)] = (T.lows n (9 * j + (t + 1))).map byt := by
              rw [show 9 * j + (t + 1) = (9 * j + t) + 1 by omega, T.lows_succ, List.map_append]
              congr 1
              have h1 := T.low_nat n (9 * j + t)
              have h2 := T.low_chunk n j t ht9
              rw [← HQ.out, ← HQ2.out] at h2
              simp only [List.map_cons, List.map_nil, byt, h1]
              rw [← h2]
              congr 2
            rw [hE] at hown1
            have hbl : wr.heap.size + 1 = (wr.alloc (.cells #[.int .u8 (48 + (q2 : Int) % 10)] 5)).heap.size := by simp
            have hA : Below w.heap.size w (wr.alloc (.cells #[.int .u8 (48 + (q2 : Int) % 10)] 5)) := HU.out.2.2.alloc HU.out.2.2.size _
            have hB5 : Below w.heap.size w w5 := hA.grown hgrow1 hA.size (by intro k hk; injection hk with hk; omega)
            have hO5 : Own w5 g L2 cap (n / 10 ^ (9 * (j + 1))) := (HU.out.2.1.alloc _).keep (hgrow1.block g (by have := HU.out.2.1.lt; omega) (by intro e; injection e with e; exact HR.out.2.2.2 e))
            have hBy5 : OwnBytes w5 gb (l * 10 + 9) (T.lows n (9 * j + (t + 1))) := by
              unfold OwnBytes
              rw [T.lows_length]
              exact hown1
            have HW := Lib.hid (And.intro hBy5 (And.intro hO5 hB5))
            clear hE hown1 hgrow1 hbl hA hB5 hO5 hBy5
            go_wp2
            go_roundw
            case rel =>
              refine ⟨t + 1, by omega, by go_num, ?_, rfl, HW.out.1, HW.out.2.1, HW.out.2.2⟩
              rw [HQ2.out, Nat.pow_succ, ← Nat.div_div_eq_div_mul]
              rfl
            case measure => simp [intOf]; omega
          · obtain rfl : t = 9 := by omega
            have HU := Lib.hid (And.intro hby (And.intro ho hb))
            clear hby ho hb
            go_wp2
            go_roundw
            case rel =>
              exact ⟨j + 1, L2, rfl, rfl, HU.out.2.1, HT.out.2, by omega, HU.out.1, HU.out.2.2⟩
            case measure => simp [lenOf]; omega
theorem digits_any {w : World} {v : Value} {z : Int} {k : Nat} (ht : Tab w) (h : IsInt w v z) (hz : z.natAbs < M.B ^ k) (hk : k ≤ 30000) :
    Calls Tryz.prog 158 #[v] w fun e w' => e = .returned (.string ⟨(Lib.decDigits z.natAbs).toArray⟩) ∧ Below w.heap.size w w' := by
  by_cases hs : z.natAbs ≤ 4611686018427387903
  · exact digits_short ht h hs
  · exact digits_long h hs hz hk
end Go.Proofs.YthnbocojjllfaaaGreatDoor
