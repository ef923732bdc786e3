/- The law AcyclicProves. -/
import Derived.Test.YtiakgcaflnpmeaaAcN
namespace Go.Proofs.Ytiakgcaflnpmeaa
open Go Go.RowKit

/-- The number that a cell has. -/
def numAt (w : World) (p : Addr) : Int := match w.cell? p with
  | some (.int _ z) => z
  | _ => 0
theorem nums_list {w : World} {A : Option Addr} {n : Nat} (h : Nums w A n) : ∃ l : List Int, l.length = n ∧ IntAt w A l.length fun i => l.getD i 0 := by
  by_cases h0 : 0 < n
  · obtain ⟨b, off, rfl, hb, hc⟩ := h.2 h0
    refine ⟨(List.range n).map fun i => numAt w ⟨b, off + i, none⟩, by simp, fun _ => ⟨b, off, rfl, hb, fun i hi => ?_⟩⟩
    have hi2 : i < n := by simpa using hi
    obtain ⟨z, hz, _⟩ := hc i hi2
    simp [List.getD, hi2, numAt, hz]
  · exact ⟨[], by simp; omega, fun h => absurd h (by simp)⟩
theorem tree7_ok {S : Sc} (h : Valid S) (h1 : (redS S).2.length = 1) : checkTB S (tree7 S) = true := by
  have hlen : (tree7 S).length = S.nr := by unfold tree7; rw [if_pos h1]; simp
  rw [checkTB_iff h.check hlen]
  obtain ⟨c, hc⟩ := List.length_eq_one_iff.1 h1
  have hp : ∀ r, r < S.nr → pOf (tree7 S) r = pf (redS S).1 r r := fun r hr => by
    unfold pOf tree7
    rw [if_pos h1]
    simp [List.getD, hr]
  have hcr : c < S.nr := core_mem (by rw [hc]; simp)
  have hnot : c ∉ (redS S).1.map Prod.fst := fun hm => by
    obtain ⟨x, hx, e⟩ := List.mem_map.1 hm
    have := (Acy.red_nodup (A := attrs S) S.nr (E := List.range S.nr) List.nodup_range).2.2 x hx
    rw [e] at this
    exact this (by show c ∈ (redS S).2; rw [hc]; simp)
  exact Acy.right_of_red (c := c) (by rw [hp c hcr, pf_root hnot]) hc (fun x hx => by rw [hp x.1 (rem_mem hx).1, pf_mem (rem_nodup S) hx]) fun a ha => h.cover ha
theorem no_both {S : Sc} (h : Valid S) {T o c : List Int} (hT : checkTB S T = true) : closedB S o c = false := by
  have hl : T.length = S.nr := by
    unfold checkTB at hT
    simp only [Bool.and_eq_true, decide_eq_true_eq] at hT
    exact hT.2.1
  rw [checkTB_iff h.check hl] at hT
  unfold closedB
  rw [Acy.no_tree (fun r a hr ha => by
    simp only [attrs, List.mem_map, List.mem_range] at ha
    obtain ⟨j, hj, rfl⟩ := ha
    exact h.rr r j hr hj) hT, Bool.and_false]
/-- What lies in memory while the parents are drawn. -/
structure PI (w w2 : World) (g : Nat) (S : Sc) (V : Sv) (v : Value) (l : List Int) (wr : World) : Prop where
  low : Below w.heap.size w wr
  kp : Keeps w2 wr (some g)
  src : SrcIn wr g
  bx : wr.heap[w2.heap.size]? = some (.cells #[.slice V.A S.na V.ca, .slice V.R S.nr V.cr, .slice V.F S.nf V.cf, .int .i64 S.label] 28 (0, 0))
  own : wr.ownsRow (w2.heap.size + 1) 3 1 v l.length (intV l)
theorem box_cells {w : World} {B : Nat} {S : Sc} {V : Sv} (h : w.heap[B]? = some (.cells #[.slice V.A S.na V.ca, .slice V.R S.nr V.cr, .slice V.F S.nf V.cf, .int .i64 S.label] 28 (0, 0))) : Box4 w B S V :=
  ⟨cell_in h rfl, cell_in h rfl, cell_in h rfl, cell_in h rfl, lt_of_block h⟩
/-- What lies in memory behind the draws. -/
structure MI (w : World) (B : Nat) (S : Sc) (V : Sv) (A5 A6 : Option Addr) (wy : World) : Prop where
  low : Below w.heap.size w wy
  sx : SchIn wy S V
  bx : Box4 wy B S V
  i5 : IntAt wy A5 (redO S).1.length fun i => (redO S).1.getD i 0
  i6 : IntAt wy A6 (redO S).2.length fun i => (redO S).2.getD i 0
theorem MI.next {w wy w' : World} {B : Nat} {S : Sc} {V : Sv} {A5 A6 : Option Addr} (h : MI w B S V A5 A6 wy) (hb : Below wy.heap.size wy w') : MI w B S V A5 A6 w' :=
  ⟨Below.step h.low hb, h.sx.below hb, h.bx.below hb, h.i5.below hb, h.i6.below hb⟩
set_option linter.unusedSimpArgs false in
set_option maxHeartbeats 12800000 in
set_option maxRecDepth 100000 in
theorem law_aprv {w : World} {A A1 A2 A3 : Option Addr} {n c n1 c1 n2 c2 n3 c3 : Nat} (h : Nums w A n) (hc : n ≤ c) (hcm : c ≤ maxLen) (h1 : Nums w A1 n1) (h2 : Nums w A2 n2) (h3 : Nums w A3 n3) :
    Calls Try.prog 6 #[.slice A n c, .slice A1 n1 c1, .slice A2 n2 c2, .slice A3 n3 c3] w fun e w' => e = .returned (.bool true) ∧ Below w.heap.size w w' := by
  obtain ⟨ei, hi, hz, hss, hbs⟩ := info_parts infoInt
  have HI := Lib.hid (And.intro hi (And.intro hz (And.intro hss hbs)))
  clear hi hz hss hbs
  obtain ⟨lo, hlo, hio⟩ := nums_list h1
  obtain ⟨lc, hlc, hic⟩ := nums_list h2
  obtain ⟨lp, hlp, hip⟩ := nums_list h3
  subst hlo hlc hlp
  have H := Lib.hid (And.intro h (And.intro hio (And.intro hic hip)))
  have hn1 := h1.1
  have hn2 := h2.1
  have hn3 := h3.1
  unfold maxLen at hn1 hn2 hn3
  clear h h1 h2 h3 hio hic hip
  by_cases g0 : 300 < n
  · have g0i : (300 : Int) < (n : Int) := by omega
    go_enter Try.func6, Try.ntmps6
    go_wp2_with fail
    refine sane07.mono ?_
    rintro e w1 ⟨rfl, hb⟩
    go_wp2
    go_ret
    exact ⟨rfl, hb⟩
  have g0i : ¬ (300 : Int) < (n : Int) := by omega
  by_cases g1 : 8 < lo.length
  · have g1i : (8 : Int) < (lo.length : Int) := by omega
    go_enter Try.func6, Try.ntmps6
    go_wp2_with fail
    refine sane07.mono ?_
    rintro e w1 ⟨rfl, hb⟩
    go_wp2
    go_ret
    exact ⟨rfl, hb⟩
  have g1i : ¬ (8 : Int) < (lo.length : Int) := by omega
  by_cases g2 : 8 < lc.length
  · have g2i : (8 : Int) < (lc.length : Int) := by omega
    go_enter Try.func6, Try.ntmps6
    go_wp2_with fail
    refine sane07.mono ?_
    rintro e w1 ⟨rfl, hb⟩
    go_wp2
    go_ret
    exact ⟨rfl, hb⟩
  have g2i : ¬ (8 : Int) < (lc.length : Int) := by omega
  by_cases g3 : 8 < lp.length
  · have g3i : (8 : Int) < (lp.length : Int) := by omega
    go_enter Try.func6, Try.ntmps6
    go_wp2_with fail
    refine sane07.mono ?_
    rintro e w1 ⟨rfl, hb⟩
    go_wp2
    go_ret
    exact ⟨rfl, hb⟩
  have g3i : ¬ (8 : Int) < (lp.length : Int) := by omega
  have HL := Lib.hid (And.intro g1 (And.intro g2 g3))
  clear g0 g1 g2 g3
  go_enter Try.func6, Try.ntmps6
  go_wp2_with fail
  refine (new_any H.out.1 hc hcm).mono ?_
  rintro e w1 ⟨g, rfl, hgl, hs, hb⟩
  have H1 := Lib.hid (And.intro hb (And.intro hgl hs))
  clear hb hgl hs
  go_wp2_with fail
  refine (relations_any H1.out.2.2).mono ?_
  rintro e w2 ⟨v, rfl, ps, ⟨V, rfl, hS, hkS⟩, hd, h1, h5, hcv, hs, hsr⟩
  have hv := (sch_valid hd h1 h5 hcv).1
  have hf : (schS ps).nf = 0 := rfl
  have hl : (schS ps).label = -1 := rfl
  generalize schS ps = S at *
  have hB2 : Below w.heap.size w w2 := H1.out.1.trans (hsr.1.mono H1.out.2.1)
  have hg2 : g < w2.heap.size := hs.lt
  have hg : Below w2.heap.size w2 (w2.alloc (.cells #[.slice V.A S.na V.ca, .slice V.R S.nr V.cr, .slice V.F S.nf V.cf, .int .i64 S.label] 28)) := (Below.refl _ _).alloc (Nat.le_refl _) _
  have H2 := Lib.hid (show PI w w2 g S V (.slice none 0 0) [] (w2.alloc (.cells #[.slice V.A S.na V.ca, .slice V.R S.nr V.cr, .slice V.F S.nf V.cf, .int .i64 S.label] 28)) from ⟨Below.step hB2 hg, Keeps.below hg _, hs.below hg, heap_alloc_new w2 _, ⟨rfl, .inl ⟨rfl, rfl⟩⟩⟩)
  have HV := Lib.hid (And.intro hv (And.intro hf (And.intro hl hkS)))
  have hnr1 := hv.nr1
  have hnr6 := hv.nr2
  clear hd h1 h5 hcv hs hsr ps hB2 hS hkS hg hv hf hl
  have hsz3 : (w2.alloc (.cells #[.slice V.A S.na V.ca, .slice V.R S.nr V.cr, .slice V.F S.nf V.cf, .int .i64 S.label] 28)).heap.size = w2.heap.size + 1 := by simp
  go_upto_region 5 with fail
  generalize w2.alloc (.cells #[.slice V.A S.na V.ca, .slice V.R S.nr V.cr, .slice V.F S.nf V.cf, .int .i64 S.label] 28) = w3 at *
  have q1 := (box_cells H2.out.bx).c1
  go_wp2_with fail
  clear q1
  go_loopg [12, 13] S.nr (fun gg s12 s13 wr => ∃ (v : Value) (l : List Int), l.length + gg = S.nr ∧ s12 = v ∧ s13 = .int .i64 (l.length : Int) ∧ Hid (PI w w2 g S V v l wr))
  case atStart => exact ⟨_, [], by simp, rfl, rfl, Lib.hid H2.out⟩
  case round =>
    clear H2 hsz3
    obtain ⟨sv, l, hi, hsv, rfl, HR⟩ := hrel
    have hsv2 := hsv.symm
    clear hsv
    subst hsv2
    obtain ⟨i, hil⟩ : ∃ i, i = l.length := ⟨_, rfl⟩
    have HIL := Lib.hid hil
    rw [← hil] at hi ⊢
    clear hil
    by_cases hlt : i < S.nr
    · have hcon := range_src S.nr HR.out.src hnr1 (by omega)
      go_wp2_with fail
      refine hcon.mono ?_
      rintro e w4 ⟨r, rfl, hs, hsr⟩
      have hk := Keeps.src hsr
      have hne : ∀ k, sv.ownBlock = some k → (some g : Option Nat) ≠ some k := fun k hk e => by
        have := (HR.out.own.lt k hk).1
        injection e with e
        omega
      have ho := hk.own HR.out.own hne
      have hbx := hk.block HR.out.bx (by intro e; injection e with e; omega)
      have hlow : Below w.heap.size w w4 := HR.out.low.trans (hsr.1.mono (by have := H1.out.2.1; omega))
      have hszB : w2.heap.size < w4.heap.size := lt_of_block hbx
      have HS := Lib.hid (And.intro hs (And.intro ho (And.intro hbx (And.intro hlow (HR.out.kp.trans hk)))))
      rw [← HIL.out] at ho
      have HO1 := Lib.hid ho
      clear hs hsr hk hne ho hbx hlow hcon
      go_wp2_with (at_builtin; refine wpList_append_own_at _ rfl (.tmp 51) (.tmp 56) 22 rfl (w2.heap.size + 1) 3 ei (.int .i64 0) 1 8 Try.underlying22 HI.out.1 HI.out.2.1 HI.out.2.2.1 HI.out.2.2.2 rfl (by decide) sv i (intV l) rfl (HO1.out.alloc _) ⟨w4.heap.size, 0, none⟩ 1 1 [.int .i64 r] rfl rfl (by intro j u hj; match j, hj with | 0, hj => simp at hj; subst hj; simp [Addr.add]) (by intro u hu; simp at hu; subst hu; rfl) (by unfold maxLen; omega) (by omega) (by simp; omega) ?_; intro v' w5 hown hgrow hnil hblk; have HO := Lib.hid (And.intro hown hgrow); clear hown hgrow hnil hblk)
      have hrow : ∀ k, sv.ownBlock = some k → w2.heap.size + 1 ≤ k := fun k hk => (HO1.out.lt k hk).1
      have hG : Below (w2.heap.size + 1) w4 w5 := ((Below.refl _ _).alloc hszB (.cells #[.int .i64 r] 3)).grown HO.out.2 (by simp; omega) hrow
      have HN := Lib.hid (show PI w w2 g S V v' (l ++ [r]) w5 from
        { low := HS.out.2.2.2.1.trans (hG.mono (by have := H1.out.2.1; omega))
          kp := ⟨Nat.le_trans HS.out.2.2.2.2.1 hG.size, fun k hk hne => (hG.block k (by omega)).trans (HS.out.2.2.2.2.2 k hk hne)⟩
          src := HS.out.1.belowC hG (by omega)
          bx := (hG.block _ (by omega)).trans HS.out.2.2.1
          own := by
            rw [show (l ++ [r]).length = i + 1 by rw [List.length_append, ← HIL.out]; rfl, show intV (l ++ [r]) = intV l ++ [.int .i64 r] by simp [intV]]
            exact HO.out.1 })
      clear hrow hG
      go_wp2
      go_roundg (S.nr - (i + 1))
      case measure => omega
      case rel => exact ⟨v', l ++ [r], by rw [List.length_append, ← HIL.out]; show i + 1 + _ = _; omega, rfl, by rw [List.length_append, ← HIL.out]; rfl, HN⟩
    · have ein : i = S.nr := by omega
      have hsx := HV.out.2.2.2 wr HR.out.kp
      have hbx := box_cells HR.out.bx
      obtain ⟨AP, cP, rfl, hlP, hiP⟩ := intL_own HR.out.own (by rw [← HIL.out]; omega)
      have H3 := Lib.hid (And.intro HR.out.low (And.intro hsx (And.intro hbx hiP)))
      have q0 := hbx.c0
      have q1 := hbx.c1
      have q2 := hbx.c2
      have q3 := hbx.c3
      have hcon := Reduce07 hsx HV.out.1 HV.out.2.1 HV.out.2.2.1
      rw [ein]
      clear hlt hi ein hsx hbx hiP HR
      go_wp2_with fail
      refine hcon.mono ?_
      rintro e w5 ⟨v, u, rfl, ⟨A5, c5, rfl, hl5, hi5⟩, ⟨A6, c6, rfl, hl6, hi6⟩, hb⟩
      have H5 := Lib.hid (And.intro (show MI w w2.heap.size S V A5 A6 w5 from ⟨Below.step H3.out.1 hb, H3.out.2.1.below hb, H3.out.2.2.1.below hb, hi5, hi6⟩) (H3.out.2.2.2.below hb))
      have HL5 := Lib.hid (And.intro hl5 hl6)
      clear hb hi5 hi6 hl5 hl6 q0 q1 q2 q3 hcon H3
      have q0 := H5.out.1.bx.c0
      have q1 := H5.out.1.bx.c1
      have q2 := H5.out.1.bx.c2
      have q3 := H5.out.1.bx.c3
      have hcon := Tree07 H5.out.1.sx HV.out.1 HV.out.2.1 HV.out.2.2.1
      go_wp2_with fail
      refine hcon.mono ?_
      rintro e w6 ⟨v, rfl, ⟨A7, c7, rfl, hl7, hi7⟩, hb⟩
      have hg : Below w6.heap.size w6 (w6.alloc (.cells #[.slice A7 (tree7 S).length c7] 42)) := (Below.refl _ _).alloc (Nat.le_refl _) _
      have H7 := Lib.hid (And.intro (H5.out.1.next (Below.step hb hg)) (And.intro (H5.out.2.below (Below.step hb hg)) (And.intro (hi7.below hg) (heap_alloc_new w6 (.cells #[.slice A7 (tree7 S).length c7] 42)))))
      clear hb hi7 hl7 q0 q1 q2 q3 hcon H5 hg
      go_upto_region 13 with fail
      generalize w6.alloc (.cells #[.slice A7 (tree7 S).length c7] 42) = w7 at *
      generalize w6.heap.size = D at *
      go_cut [18] (fun s18 wy => s18 = .bool (checkTB S l || (checkTB S lp || checkTB S (tree7 S))) ∧ Hid (MI w w2.heap.size S V A5 A6 wy))
      case first =>
        have q0 := H7.out.1.bx.c0
        have q1 := H7.out.1.bx.c1
        have q2 := H7.out.1.bx.c2
        have q3 := H7.out.1.bx.c3
        have hck := tcheck_any (c := cP) H7.out.1.sx H7.out.2.1
        generalize hk1 : checkTB S l = k1 at hck
        have HK1 := Lib.hid hk1
        clear hk1
        go_wp2_with fail
        refine hck.mono ?_
        rintro e w8 ⟨rfl, hb⟩
        have H8 := Lib.hid (And.intro (H7.out.1.next hb) (And.intro (H7.out.2.2.1.below hb) ((hb.block _ (lt_of_block H7.out.2.2.2)).trans H7.out.2.2.2)))
        clear hb q0 q1 q2 q3 hck
        cases k1 with
        | true =>
          go_wp2_with fail
          go_meet
          exact ⟨by rw [HK1.out]; rfl, Lib.hid H8.out.1⟩
        | false =>
          have q0 := H8.out.1.bx.c0
          have q1 := H8.out.1.bx.c1
          have q2 := H8.out.1.bx.c2
          have q3 := H8.out.1.bx.c3
          have hck := tcheck_any (c := c3) H8.out.1.sx (H.out.2.2.2.below H8.out.1.low)
          generalize hk2 : checkTB S lp = k2 at hck
          have HK2 := Lib.hid hk2
          clear hk2
          go_wp2_with fail
          refine hck.mono ?_
          rintro e w9 ⟨rfl, hb⟩
          have H9 := Lib.hid (And.intro (H8.out.1.next hb) (And.intro (H8.out.2.1.below hb) ((hb.block _ (lt_of_block H8.out.2.2)).trans H8.out.2.2)))
          clear hb q0 q1 q2 q3 hck
          cases k2 with
          | true =>
            go_wp2_with fail
            go_meet
            exact ⟨by rw [HK1.out, HK2.out]; rfl, Lib.hid H9.out.1⟩
          | false =>
            have q0 := H9.out.1.bx.c0
            have q1 := H9.out.1.bx.c1
            have q2 := H9.out.1.bx.c2
            have q3 := H9.out.1.bx.c3
            have t0 : w9.cell? ⟨D, 0, none⟩ = some (.slice A7 (tree7 S).length c7) := cell_in H9.out.2.2 rfl
            have hck := tcheck_any (c := c7) H9.out.1.sx H9.out.2.1
            generalize hk3 : checkTB S (tree7 S) = k3 at hck
            have HK3 := Lib.hid hk3
            clear hk3
            go_wp2_with fail
            refine hck.mono ?_
            rintro e wa ⟨rfl, hb⟩
            have HA := Lib.hid (H9.out.1.next hb)
            clear hb q0 q1 q2 q3 t0 hck
            go_wp2_with fail
            go_meet
            exact ⟨by rw [HK1.out, HK2.out, HK3.out]; rfl, Lib.hid HA.out⟩
      obtain ⟨rfl, H8⟩ := hcut
      clear H7
      go_upto_region 14 with fail
      go_cut [19] (fun s19 wy => s19 = .bool (closedB S lo lc || closedB S (redO S).1 (redO S).2) ∧ Hid (MI w w2.heap.size S V A5 A6 wy))
      case first =>
        have q0 := H8.out.bx.c0
        have q1 := H8.out.bx.c1
        have q2 := H8.out.bx.c2
        have q3 := H8.out.bx.c3
        have hl8 := HL.out
        have hck := Closed_any (c := c1) (c' := c2) H8.out.sx (by omega) (by omega) (H.out.2.1.below H8.out.low) (H.out.2.2.1.below H8.out.low)
        generalize hk1 : closedB S lo lc = k1 at hck
        have HK1 := Lib.hid hk1
        clear hk1
        go_wp2_with fail
        refine hck.mono ?_
        rintro e w8 ⟨rfl, hb⟩
        have H9 := Lib.hid (H8.out.next hb)
        clear hb q0 q1 q2 q3 hck
        cases k1 with
        | true =>
          go_wp2_with fail
          go_meet
          exact ⟨by rw [HK1.out]; rfl, Lib.hid H9.out⟩
        | false =>
          have q0 := H9.out.bx.c0
          have q1 := H9.out.bx.c1
          have q2 := H9.out.bx.c2
          have q3 := H9.out.bx.c3
          have hck := Closed_any (c := c5) (c' := c6) H9.out.sx HL5.out.1 HL5.out.2 H9.out.i5 H9.out.i6
          generalize hk2 : closedB S (redO S).1 (redO S).2 = k2 at hck
          have HK2 := Lib.hid hk2
          clear hk2
          go_wp2_with fail
          refine hck.mono ?_
          rintro e w9 ⟨rfl, hb⟩
          have HA := Lib.hid (H9.out.next hb)
          clear hb q0 q1 q2 q3 hck
          go_wp2_with fail
          go_meet
          exact ⟨by rw [HK1.out, HK2.out]; rfl, Lib.hid HA.out⟩
      obtain ⟨rfl, H9⟩ := hcut
      clear H8
      obtain ⟨T, hT⟩ : ∃ T, T = (checkTB S l || (checkTB S lp || checkTB S (tree7 S))) := ⟨_, rfl⟩
      obtain ⟨Z, hZ⟩ : ∃ Z, Z = (closedB S lo lc || closedB S (redO S).1 (redO S).2) := ⟨_, rfl⟩
      have hboth : T = true → Z = false := fun h => by
        rw [hT] at h
        rw [hZ]
        simp only [Bool.or_eq_true] at h
        rcases h with h | h | h <;> rw [no_both HV.out.1 h, no_both HV.out.1 h] <;> rfl
      have hacy : T = false → decide ((redS S).2.length = 1) = false := fun h => decide_eq_false fun h1 => by
        rw [hT, tree7_ok HV.out.1 h1] at h
        simp at h
      rw [← hT, ← hZ]
      have HTZ := Lib.hid (And.intro hT hZ)
      have q0 := H9.out.bx.c0
      have q1 := H9.out.bx.c1
      have q2 := H9.out.bx.c2
      have q3 := H9.out.bx.c3
      clear hT hZ
      cases T with
      | true =>
        obtain rfl : Z = false := hboth rfl
        clear hboth hacy
        go_wp2_with fail
        refine sane07.mono ?_
        rintro e wd ⟨rfl, hb⟩
        have HD := Lib.hid (Below.step H9.out.low hb)
        clear hb q0 q1 q2 q3
        go_wp2
        go_ret
        exact ⟨rfl, HD.out⟩
      | false =>
        have hcon := Acyclic07 H9.out.sx HV.out.1 HV.out.2.1 HV.out.2.2.1
        rw [hacy rfl] at hcon
        clear hboth hacy
        go_wp2_with fail
        refine hcon.mono ?_
        rintro e wb ⟨rfl, hb⟩
        have HB := Lib.hid (Below.step H9.out.low hb)
        clear hb q0 q1 q2 q3 hcon
        go_wp2_with fail
        refine sane07.mono ?_
        rintro e wd ⟨rfl, hb⟩
        have HD := Lib.hid (Below.step HB.out hb)
        clear hb
        go_wp2
        go_ret
        exact ⟨rfl, HD.out⟩
end Go.Proofs.Ytiakgcaflnpmeaa
