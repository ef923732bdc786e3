/- The law RationalSums. -/
import Derived.Test.YtigplffpnbdkeaaGreatDoorQSrcR
import Derived.Test.YtigplffpnbdkeaaGreatDoorQRefS
import Derived.Maps.AppendAt
namespace Go.Proofs.YtigplffpnbdkeaaGreatDoor
open Go Go.RowKit

/-- A list of texts that are short enough to be read. -/
def LS (w : World) (A : Option Addr) (n : Nat) : Prop := n ≤ 100000 ∧ ∃ txt, Lst1 w A n txt ∧ ∀ i, i < n → Short (txt i)
theorem LS.below {w w' : World} {A : Option Addr} {n : Nat} (h : LS w A n) (hb : Below w.heap.size w w') : LS w' A n := by
  obtain ⟨h1, txt, h2, h3⟩ := h
  exact ⟨h1, txt, h2.below hb, h3⟩
def txtS (ts : List ByteArray) (i : Nat) : ByteArray := (ts[i]?).getD ⟨#[]⟩
theorem own_ls {w : World} {base n : Nat} {v : Value} {ts : List ByteArray} (h : w.ownsRow base 30 1 v n (ts.map Value.string)) (hl : ts.length = n) (hn : n ≤ 100000) (hs : ∀ t ∈ ts, Short t) : ∃ A c, v = .slice A n c ∧ LS w A n := by
  have h0 := h
  rcases h.2 with ⟨rfl, rfl⟩ | ⟨g', cap, cur, rfl, _, hg, _⟩
  · exact ⟨none, 0, rfl, hn, fun _ => ⟨#[]⟩, fun h => absurd h (by omega), fun i h => absurd h (by omega)⟩
  · refine ⟨_, _, rfl, hn, txtS ts, fun _ => ⟨g', 0, rfl, lt_of_block hg, fun i hi => ?_⟩, fun i hi => ?_⟩
    · rw [Nat.zero_add, h0.cellAt i (by omega)]
      have hi' : i < ts.length := by omega
      simp [txtS, hi']
    · have hi' : i < ts.length := by omega
      rw [show txtS ts i = ts[i] by simp [txtS, hi']]
      exact hs _ (List.getElem_mem hi')
theorem four_ls {w : World} {A0 A1 A2 A3 : Option Addr} {n0 n1 n2 n3 c0 c1 c2 c3 : Nat} (h0 : LS w A0 n0) (h1 : LS w A1 n1) (h2 : LS w A2 n2) (h3 : LS w A3 n3) {i : Nat} (hi : i < 4) :
    ∃ A n c, (∀ w, (Instr.index 32 (.agg #[.slice A0 n0 c0, .slice A1 n1 c1, .slice A2 n2 c2, .slice A3 n3 c3]) (.int .i64 (i : Int))).run Tryz.prog w = .ok (.slice A n c) w) ∧ LS w A n := by
  match i, hi with
  | 0, _ => exact ⟨A0, n0, c0, fun _ => by kernel_rfl, h0⟩
  | 1, _ => exact ⟨A1, n1, c1, fun _ => by kernel_rfl, h1⟩
  | 2, _ => exact ⟨A2, n2, c2, fun _ => by kernel_rfl, h2⟩
  | 3, _ => exact ⟨A3, n3, c3, fun _ => by kernel_rfl, h3⟩
theorem three_ls {w : World} {A0 A1 A2 : Option Addr} {n0 n1 n2 c0 c1 c2 : Nat} (h0 : LS w A0 n0) (h1 : LS w A1 n1) (h2 : LS w A2 n2) {i : Nat} (hi : i < 3) :
    ∃ A n c, (∀ w, (Instr.index 36 (.agg #[.slice A0 n0 c0, .slice A1 n1 c1, .slice A2 n2 c2]) (.int .i64 (i : Int))).run Tryz.prog w = .ok (.slice A n c) w) ∧ LS w A n := by
  match i, hi with
  | 0, _ => exact ⟨A0, n0, c0, fun _ => by kernel_rfl, h0⟩
  | 1, _ => exact ⟨A1, n1, c1, fun _ => by kernel_rfl, h1⟩
  | 2, _ => exact ⟨A2, n2, c2, fun _ => by kernel_rfl, h2⟩
theorem val_ex (txt : Nat → Nat → ByteArray) : ∃ val : Nat → Nat → Option Rat, ∀ k i, Rd (txt k i) (val k i) := by
  obtain ⟨f, hf⟩ := Classical.axiomOfChoice fun p : Nat × Nat => rd_ex (txt p.1 p.2)
  exact ⟨fun k i => f (k, i), fun k i => hf (k, i)⟩
theorem RList.kept {w w' : World} {g base n : Nat} {v : Value} {ts : List ByteArray} (h : RList w base v n ts) (hb : Src1 g w w') (hg : g < base) : RList w' base v n ts := ⟨own_src h.1 hb hg, h.2⟩
/-- What Short and Lists give. -/
def LRes (n : Nat) (txt : Nat → ByteArray) (w : World) (e : Ending) (w' : World) : Prop := ∃ r, e = .returned (.bool r) ∧ (r = true → n ≤ 14 ∧ ∀ i, i < n → (txt i).size ≤ 30) ∧ Below w.heap.size w w'
set_option maxHeartbeats 3200000 in
set_option maxRecDepth 100000 in
theorem shorts_any {w : World} {b n : Nat} {txt : Nat → Nat → ByteArray} (h : Lsts w b 1 n txt) (hn : n ≤ maxLen) (hs : ∀ i, i < n → (txt 0 i).size ≤ maxLen) :
    Calls Tryz.prog 34 #[.slice (some ⟨b, 0, none⟩) 1 1] w (LRes n (txt 0) w) := by
  obtain ⟨A, c, hl, hx⟩ := h.list (k := 0) (by omega)
  have H := Lib.hid (And.intro hx hs)
  unfold maxLen at hn
  clear h hx hs
  go_enter Tryz.func34, Tryz.ntmps34
  go_wp2_with fail
  go_loop [12] (fun s12 => ∃ i : Nat, i ≤ 1 ∧ s12 = .int .i64 (i : Int) ∧ Hid (i = 1 → n ≤ 14 ∧ ∀ i, i < n → (txt 0 i).size ≤ 30)) (fun s12 => 1 - (intOf s12).toNat)
  case atStart => exact ⟨0, by omega, rfl, Lib.hid fun h => absurd h (by omega)⟩
  case round =>
    obtain ⟨i, hi, rfl, HR⟩ := hrel
    by_cases hi1 : i < 1
    · obtain rfl : i = 0 := by omega
      rw [show ((0 : Nat) : Int) = 0 from rfl]
      clear hi hi1
      by_cases h14 : 14 < n
      · have h14i : (14 : Int) < (n : Int) := by omega
        go_wp2
        go_ret
        exact ⟨false, rfl, fun h => absurd h (by simp), Below.refl _ _⟩
      · have h14i : ¬ (14 : Int) < (n : Int) := by omega
        go_wp2_with fail
        clear hl
        go_loop [21] (fun s21 => ∃ j : Nat, j ≤ n ∧ s21 = .int .i64 (j : Int) ∧ Hid (∀ i, i < j → (txt 0 i).size ≤ 30)) (fun s21 => n - (intOf s21).toNat)
        case atStart => exact ⟨0, by omega, rfl, Lib.hid fun _ h => absurd h (by omega)⟩
        case round =>
          obtain ⟨j, hj, rfl, HJ⟩ := hrel
          by_cases hjn : j < n
          · obtain ⟨b', off, rfl, hb', hc⟩ := H.out.1 (by omega)
            have c0 := hc j hjn
            have hsz := H.out.2 j hjn
            unfold maxLen at hsz
            clear hb' hc
            obtain ⟨s, hs⟩ : ∃ s, s = txt 0 j := ⟨_, rfl⟩
            rw [← hs] at c0 hsz
            have HS := Lib.hid hs
            clear hs
            by_cases h30 : 30 < s.size
            · have h30i : (30 : Int) < (s.size : Int) := by omega
              go_wp2
              go_ret
              exact ⟨false, rfl, fun h => absurd h (by simp), Below.refl _ _⟩
            · have h30i : ¬ (30 : Int) < (s.size : Int) := by omega
              go_wp2
              go_round
              case rel => exact ⟨j + 1, by omega, by go_num, Lib.hid fun k hk => by
                by_cases e : k = j
                · rw [e, ← HS.out]; omega
                · exact HJ.out k (by omega)⟩
              case measure => simp [intOf]; omega
          · have ejn : j = n := by omega
            subst ejn
            go_wp2
            go_round
            case rel => exact ⟨1, by omega, by go_num, Lib.hid fun _ => ⟨by omega, HJ.out⟩⟩
            case measure => simp [intOf]
    · obtain rfl : i = 1 := by omega
      rw [show ((1 : Nat) : Int) = 1 from rfl]
      go_wp2
      go_ret
      exact ⟨true, rfl, fun _ => HR.out (by simp), Below.refl _ _⟩
theorem lists_any {w : World} {A : Option Addr} {n c : Nat} {txt : Nat → ByteArray} (h : Lst1 w A n txt) (hn : n ≤ maxLen) (hs : ∀ i, i < n → (txt i).size ≤ maxLen) :
    Calls Tryz.prog 8 #[.slice A n c] w (LRes n txt w) := by
  have H := Lib.hid (And.intro (lsts_one (c := c) (txt := fun _ => txt) h) (And.intro hs (show Below w.heap.size w (w.alloc (.cells #[.slice A n c] 23)) from (Below.refl _ _).alloc (Nat.le_refl _) _)))
  clear h hs
  go_enter Tryz.func8, Tryz.ntmps8
  go_wp2_with fail
  refine (shorts_any H.out.1 hn H.out.2.1).mono ?_
  rintro e w2 ⟨r, rfl, hr, hb⟩
  have HR := Lib.hid (And.intro hr (H.out.2.2.trans (hb.mono H.out.2.2.size)))
  clear hr hb
  go_wp2
  go_ret
  exact ⟨r, rfl, HR.out⟩
theorem ls_of {w : World} {A : Option Addr} {n : Nat} {txt : Nat → ByteArray} (h : Lst1 w A n txt) (hs : n ≤ 14 ∧ ∀ i, i < n → (txt i).size ≤ 30) : LS w A n :=
  ⟨by omega, txt, h, fun i hi => short_of (by have := hs.2 i hi; omega)⟩
/-- The runs of the loops: the lists lie where they lay. -/
def SumsR (w W : World) (g : Nat) (wr : World) : Prop := QRun w g wr ∧ Below W.heap.size W wr
theorem SumsR.op {w W wr w' : World} {g : Nat} (h : SumsR w W g wr) (hb : Below wr.heap.size wr w') : SumsR w W g w' := ⟨h.1.op hb, h.2.trans (hb.mono h.2.size)⟩
set_option linter.unusedSimpArgs false in
set_option maxHeartbeats 6400000 in
set_option maxRecDepth 100000 in
theorem law_qsums {w : World} {A RA OA : Option Addr} {n c rn rc on oc : Nat} {rt ot : Nat → ByteArray} (ht : Tab w) (hm : Lx w) (h : Nums w A n) (hc : n ≤ c) (hcm : c ≤ maxLen)
    (hr : Lst1 w RA rn rt) (hrn : rn ≤ maxLen) (hrs : ∀ i, i < rn → (rt i).size ≤ maxLen) (ho : Lst1 w OA on ot) (hon : on ≤ maxLen) (hos : ∀ i, i < on → (ot i).size ≤ maxLen) :
    Calls Tryz.prog 3 #[.slice A n c, .slice RA rn rc, .slice OA on oc] w fun e w' => e = .returned (.bool true) ∧ Below w.heap.size w w' := by
  obtain ⟨ei, hi, hz, hss, hbs⟩ := info_parts infoRat
  have HI := Lib.hid (And.intro hi (And.intro hz (And.intro hss hbs)))
  clear hi hz hss hbs
  have H := Lib.hid (And.intro (show Env w from ⟨ht, hm⟩) h)
  have HRO := Lib.hid (And.intro hr (And.intro hrs (And.intro ho hos)))
  clear ht hm h hr hrs ho hos
  by_cases g0 : 400 < n
  · have g0i : (400 : Int) < (n : Int) := by omega
    go_enter Tryz.func3, Tryz.ntmps3
    go_wp2_with fail
    refine (qsane_any H.out.1).mono ?_
    rintro e w1 ⟨rfl, hb⟩
    go_wp2
    go_ret
    exact ⟨rfl, hb⟩
  · have g0i : ¬ (400 : Int) < (n : Int) := by omega
    go_enter Tryz.func3, Tryz.ntmps3
    go_wp2_with fail
    refine (lists_any HRO.out.1 hrn HRO.out.2.1).mono ?_
    rintro e w1 ⟨r, rfl, hr, hb⟩
    have HB := Lib.hid (And.intro hb hr)
    clear hb hr
    cases r with
    | false =>
      go_wp2_with fail
      refine (qsane_any ⟨H.out.1.1.below HB.out.1, H.out.1.2.below HB.out.1⟩).mono ?_
      rintro e w2 ⟨rfl, hb⟩
      have HC := Lib.hid (Below.trans HB.out.1 (hb.mono HB.out.1.size))
      clear hb
      go_wp2
      go_ret
      exact ⟨rfl, HC.out⟩
    | true =>
      go_wp2_with fail
      refine (lists_any (HRO.out.2.2.1.below HB.out.1) hon HRO.out.2.2.2).mono ?_
      rintro e w2 ⟨r, rfl, hr, hb⟩
      have HC := Lib.hid (And.intro (Below.trans HB.out.1 (hb.mono HB.out.1.size)) (And.intro (HB.out.2 (by simp)) hr))
      clear hb hr HB
      cases r with
      | false =>
        go_wp2_with fail
        refine (qsane_any ⟨H.out.1.1.below HC.out.1, H.out.1.2.below HC.out.1⟩).mono ?_
        rintro e w3 ⟨rfl, hb⟩
        have HD := Lib.hid (Below.trans HC.out.1 (hb.mono HC.out.1.size))
        clear hb
        go_wp2
        go_ret
        exact ⟨rfl, HD.out⟩
      | true =>
        have hlr := ls_of (HRO.out.1.below HC.out.1) HC.out.2.1
        have hlo := ls_of (HRO.out.2.2.1.below HC.out.1) (HC.out.2.2 (by simp))
        have hlim : rn ≤ 14 ∧ on ≤ 14 := ⟨HC.out.2.1.1, (HC.out.2.2 (by simp)).1⟩
        have hnum : Nums w2 A n := by
          refine ⟨H.out.2.1, fun h0 => ?_⟩
          obtain ⟨b, off, e, hl, hx⟩ := H.out.2.2 h0
          refine ⟨b, off, e, Nat.lt_of_lt_of_le hl HC.out.1.size, fun i hi => ?_⟩
          obtain ⟨z, hz, hz2⟩ := hx i hi
          exact ⟨z, (HC.out.1.cell hl).trans hz, hz2⟩
        have HL := Lib.hid (And.intro hlr (And.intro hlo (And.intro hnum (And.intro (H.out.1.1.below HC.out.1) (And.intro (H.out.1.2.below HC.out.1) HC.out.1)))))
        clear hlr hlo hnum H HRO HC
        go_wp2_with fail
        refine (QRun.new HL.out.2.2.2.1 HL.out.2.2.2.2.1 HL.out.2.2.1 hc hcm).mono ?_
        rintro e w3 ⟨g, rfl, H0⟩
        go_wp2_with fail
        refine (n_src 8 H0.out.1.2.1 (by omega) (by omega)).mono ?_
        rintro e w4 ⟨r, rfl, ⟨hr0, hr1⟩, hs, hb⟩
        obtain ⟨m, rfl⟩ : ∃ m : Nat, r = (m : Int) := ⟨r.toNat, by omega⟩
        have hm6 : m ≤ 7 := by omega
        clear hr0 hr1
        have H1 := Lib.hid (show QRun w2 g w4 from ⟨H0.out.1.big hs hb.1, H0.out.2⟩)
        clear hs hb H0
        go_wp2_with fail
        refine (rats_src H1.out.1.2.1 (by omega)).mono ?_
        rintro e w5 ⟨vx, tx, rfl, hx, hs, hb⟩
        have hgx : g < w4.heap.size := H1.out.1.2.1.lt
        have H2 := Lib.hid (And.intro hx (show QRun w2 g w5 from ⟨H1.out.1.big hs hb.1, H1.out.2⟩))
        clear hs hb hx
        go_wp2_with fail
        refine (rats_src H2.out.2.1.2.1 (by omega)).mono ?_
        rintro e w6 ⟨vy, ty, rfl, hy, hs, hb⟩
        have hgy : g < w5.heap.size := H2.out.2.1.2.1.lt
        have H3 := Lib.hid (And.intro (H2.out.1.kept hb hgx) (And.intro hy (show QRun w2 g w6 from ⟨H2.out.2.1.big hs hb.1, H2.out.2.2⟩)))
        clear hs hb hy H2
        go_wp2_with fail
        refine (rats_src (n := 2) H3.out.2.2.1.2.1 (by omega)).mono ?_
        rintro e w7 ⟨vb, tb, rfl, hbd, hs, hb⟩
        have hgb : g < w6.heap.size := H3.out.2.2.1.2.1.lt
        have hs67 := hb.1.size
        have hbx : ∀ k, vx.ownBlock = some k → k < w6.heap.size := fun k hk => (H3.out.1.1.lt k hk).2
        have hby : ∀ k, vy.ownBlock = some k → k < w6.heap.size := fun k hk => (H3.out.2.1.1.lt k hk).2
        have hw26 : w2.heap.size ≤ w6.heap.size := H3.out.2.2.below.size
        have H4 := Lib.hid (And.intro (H3.out.1.kept hb hgx) (And.intro (H3.out.2.1.kept hb hgy) (And.intro hbd (show QRun w2 g w7 from ⟨H3.out.2.2.1.big hs hb.1, H3.out.2.2.2⟩))))
        clear hs hb hbd H3 H1
        go_wp2_with fail
        refine (oddrat_src H4.out.2.2.2.1.2.1).mono ?_
        rintro e w8 ⟨t, rfl, hts, hs, hb⟩
        have H5 := Lib.hid (And.intro (H4.out.1.kept hb hgx) (And.intro (H4.out.2.1.kept hb hgy) (And.intro (H4.out.2.2.1.kept hb hgb) (And.intro (show QRun w2 g w8 from ⟨H4.out.2.2.2.1.big hs hb.1, H4.out.2.2.2.2⟩) hts))))
        have hsz6 : w6.heap.size ≤ w8.heap.size := Nat.le_trans hs67 hb.1.size
        clear hs hb hts H4
        have hfx : ∃ A c, vx = .slice A m c := by
          rcases H5.out.1.1.2 with ⟨e, hn⟩ | ⟨g', cap, cur, e, _⟩
          · exact ⟨none, 0, by rw [e, hn]⟩
          · exact ⟨_, _, e⟩
        have hfy : ∃ A c, vy = .slice A m c := by
          rcases H5.out.2.1.1.2 with ⟨e, hn⟩ | ⟨g', cap, cur, e, _⟩
          · exact ⟨none, 0, by rw [e, hn]⟩
          · exact ⟨_, _, e⟩
        obtain ⟨Ax, cx, rfl⟩ := hfx
        obtain ⟨Ay, cy, rfl⟩ := hfy
        go_upto_region 7 with (at_builtin; refine wpList_append_own_at _ rfl (.tmp 45) (.tmp 48) 23 rfl w6.heap.size 30 ei (.string ⟨#[]⟩) 1 16 Tryz.underlying23 HI.out.1 HI.out.2.1 HI.out.2.2.1 HI.out.2.2.2 rfl (by decide) vb 2 (tb.map Value.string) rfl (H5.out.2.2.1.1.alloc _) ⟨w8.heap.size, 0, none⟩ 1 1 [.string t] rfl rfl (by intro j u hj; match j, hj with | 0, hj => simp at hj; subst hj; simp [Addr.add]) (by intro u hu; simp at hu; subst hu; rfl) (by unfold maxLen; omega) (by omega) (by simp; omega) ?_; intro v' w9 hown hgrow hnil hblk; have HG := Lib.hid (And.intro hown hgrow); clear hown hgrow hnil hblk)
        have hrow : ∀ k, vb.ownBlock = some k → w6.heap.size ≤ k := fun k hk => (H5.out.2.2.1.1.lt k hk).1
        have hB9 : Below w6.heap.size w8 w9 := (((Below.refl w6.heap.size w8).alloc hsz6 (.cells #[.string t] 30)).grown HG.out.2 (by simp; omega) hrow)
        have hown : w9.ownsRow w6.heap.size 30 1 v' 3 ((tb ++ [t]).map Value.string) := by
          rw [List.map_append]; exact HG.out.1
        have hlb := own_ls hown (by rw [List.length_append, H5.out.2.2.1.2.1]; rfl) (by omega) fun u hu => by
          rcases List.mem_append.1 hu with hu | hu
          · obtain ⟨x, hx⟩ := H5.out.2.2.1.2.2 u hu; exact hx.short
          · rw [List.mem_singleton] at hu; rw [hu]; exact H5.out.2.2.2.2
        obtain ⟨Ab, cb, rfl, hLb⟩ := hlb
        have hnx : (Value.slice Ax m cx).ownBlock = none ∨ (Value.slice Ax m cx).ownBlock ≠ vb.ownBlock := by
          cases hs : (Value.slice Ax m cx).ownBlock with
          | none => exact .inl rfl
          | some k => exact .inr fun e => by have h1 := hbx k hs; have h2 := hrow k e.symm; omega
        have hny : (Value.slice Ay m cy).ownBlock = none ∨ (Value.slice Ay m cy).ownBlock ≠ vb.ownBlock := by
          cases hs : (Value.slice Ay m cy).ownBlock with
          | none => exact .inl rfl
          | some k => exact .inr fun e => by have h1 := hby k hs; have h2 := hrow k e.symm; omega
        have hox := own_ls ((H5.out.1.1.alloc (.cells #[.string t] 30)).kept HG.out.2 hnx) H5.out.1.2.1 (by omega) fun t ht => by obtain ⟨x, hx⟩ := H5.out.1.2.2 t ht; exact hx.short
        have hoy := own_ls ((H5.out.2.1.1.alloc (.cells #[.string t] 30)).kept HG.out.2 hny) H5.out.2.1.2.1 (by omega) fun t ht => by obtain ⟨x, hx⟩ := H5.out.2.1.2.2 t ht; exact hx.short
        have hLx : LS w9 Ax m := by obtain ⟨A', c', e, h⟩ := hox; injection e with e1 e2 e3; rw [e1]; exact h
        have hLy : LS w9 Ay m := by obtain ⟨A', c', e, h⟩ := hoy; injection e with e1 e2 e3; rw [e1]; exact h
        have hB29 : Below w2.heap.size w2 w9 := H5.out.2.2.2.1.below.trans (hB9.mono hw26)
        have HZ := Lib.hid (show (LS w9 Ax m ∧ LS w9 Ay m ∧ LS w9 Ab 3 ∧ LS w9 RA rn ∧ LS w9 OA on) ∧ Env w9 ∧ Below w.heap.size w w9 from
          ⟨⟨hLx, hLy, hLb, HL.out.1.below hB29, HL.out.2.1.below hB29⟩, ⟨HL.out.2.2.2.1.below hB29, HL.out.2.2.2.2.1.below hB29⟩, HL.out.2.2.2.2.2.trans (hB29.mono HL.out.2.2.2.2.2.size)⟩)
        clear hown hLb hnx hny hox hoy hLx hLy hB29 hB9 hrow hbx hby hw26 H5 HG HL HI hgx hgy hgb hs67 hsz6 hlim
        go_wp2_with fail
        go_loopg [55] 4 (fun gg s55 wr => ∃ i : Nat, i + gg = 4 ∧ s55 = .int .i64 (i : Int) ∧ Hid (Below w9.heap.size w9 wr))
        case atStart => exact ⟨0, by omega, rfl, Lib.hid (Below.refl _ _)⟩
        case round =>
          obtain ⟨i, hi, rfl, HR⟩ := hrel
          by_cases hi4 : i < 4
          · obtain ⟨Al, nl, cl, ix, hl⟩ := four_ls (c0 := cx) (c1 := rc) (c2 := cb) (c3 := oc) HZ.out.1.1 HZ.out.1.2.2.2.1 HZ.out.1.2.2.1 HZ.out.1.2.2.2.2 hi4
            obtain ⟨hn5, txt, hlt, hsh⟩ := hl
            obtain ⟨val, hval⟩ := val_ex fun _ => txt
            have HT := Lib.hid (And.intro hlt (And.intro hsh hval))
            clear hlt hsh hval
            go_wp2_with fail
            refine (qsum_any (txt := fun _ => txt) (val := val) (HZ.out.2.1.below HR.out) hn5 (HT.out.1.below HR.out) (fun k j _ hj => ⟨HT.out.2.1 j hj, HT.out.2.2 k j⟩)).mono ?_
            rintro e u1 ⟨v, rfl, hs1, hb⟩
            obtain ⟨o, k, rfl⟩ := hs1.two
            have H1 := Lib.hid (And.intro hs1 (HR.out.trans (hb.mono HR.out.size)))
            clear hs1 hb ix HR
            go_wp2_with fail
            refine (dsum_any (txt := fun _ => txt) (val := val) hn5 (HT.out.1.below H1.out.2) (fun k j _ hj => ⟨HT.out.2.1 j hj, HT.out.2.2 k j⟩)).mono ?_
            rintro e u2 ⟨v, rfl, hs2, hb⟩
            obtain rfl := hs2.uniq H1.out.1
            have H2 := Lib.hid (H1.out.2.trans (hb.mono H1.out.2.size))
            clear hs2 hb H1
            go_wp2_with fail
            go_loopg [80] 3 (fun gg s80 wr => ∃ j : Nat, j + gg = 3 ∧ s80 = .int .i64 (j : Int) ∧ Hid (Below w9.heap.size w9 wr))
            case atStart => exact ⟨0, by omega, rfl, H2⟩
            case round =>
              clear H2
              obtain ⟨j, hj, rfl, HR⟩ := hrel
              by_cases hj3 : j < 3
              · obtain ⟨Am, nm, cm, ix, hl⟩ := three_ls (c0 := cy) (c1 := oc) (c2 := rc) HZ.out.1.2.1 HZ.out.1.2.2.2.2 HZ.out.1.2.2.2.1 hj3
                by_cases hne : nl = nm
                · subst hne
                  obtain ⟨_, txt2, hlt2, hsh2⟩ := hl
                  obtain ⟨val2, hval2⟩ := val_ex (fun k => if k = 0 then txt else txt2)
                  have HD := Lib.hid (show Reads_ 2 nl (fun k => if k = 0 then txt else txt2) val2 from fun k i hk hi => by
                    refine ⟨?_, hval2 k i⟩
                    show Short ((if k = 0 then txt else txt2) i)
                    by_cases e : k = 0
                    · rw [if_pos e]; exact HT.out.2.1 i hi
                    · rw [if_neg e]; exact hsh2 i hi)
                  have HM := Lib.hid hlt2
                  clear hlt2 hsh2 hval2
                  go_wp2_with fail
                  refine (qdot_any (txt := fun k => if k = 0 then txt else txt2) (val := val2) (HZ.out.2.1.below HR.out) hn5 (HT.out.1.below HR.out) (HM.out.below HR.out) HD.out).mono ?_
                  rintro e u3 ⟨v, rfl, hs1, hb⟩
                  obtain ⟨o2, k2, rfl⟩ := hs1.two
                  have H1 := Lib.hid (And.intro hs1 (HR.out.trans (hb.mono HR.out.size)))
                  clear hs1 hb ix HR
                  go_wp2_with fail
                  refine (ddot_any (txt := fun k => if k = 0 then txt else txt2) (val := val2) hn5 (HT.out.1.below H1.out.2) (HM.out.below H1.out.2) HD.out).mono ?_
                  rintro e u4 ⟨v, rfl, hs2, hb⟩
                  obtain rfl := hs2.uniq H1.out.1
                  have H2 := Lib.hid (H1.out.2.trans (hb.mono H1.out.2.size))
                  clear hs2 hb H1
                  go_wp2
                  go_roundg (3 - (j + 1))
                  case measure => omega
                  case rel => exact ⟨j + 1, by omega, by go_num, H2⟩
                · clear hl
                  go_wp2_with fail
                  refine (qdot_shape hne).mono ?_
                  rintro e u3 ⟨rfl, hb⟩
                  have H1 := Lib.hid (HR.out.trans (hb.mono HR.out.size))
                  clear hb ix HR
                  go_wp2_with fail
                  refine (ddot_shape hne).mono ?_
                  rintro e u4 ⟨rfl, hb⟩
                  have H2 := Lib.hid (H1.out.trans (hb.mono H1.out.size))
                  clear hb H1
                  go_wp2
                  go_roundg (3 - (j + 1))
                  case measure => omega
                  case rel => exact ⟨j + 1, by omega, by go_num, H2⟩
              · obtain rfl : j = 3 := by omega
                rw [show ((3 : Nat) : Int) = 3 from rfl]
                go_wp2
                go_roundg (4 - (i + 1))
                case measure => omega
                case rel => exact ⟨i + 1, by omega, by go_num, HR⟩
          · obtain rfl : i = 4 := by omega
            rw [show ((4 : Nat) : Int) = 4 from rfl]
            go_wp2_with fail
            refine (qsane_any (HZ.out.2.1.below HR.out)).mono ?_
            rintro e u9 ⟨rfl, hb⟩
            have HF := Lib.hid (HZ.out.2.2.trans ((HR.out.trans (hb.mono HR.out.size)).mono HZ.out.2.2.size))
            clear hb
            go_wp2
            go_ret
            exact ⟨rfl, HF.out⟩
end Go.Proofs.YtigplffpnbdkeaaGreatDoor
