/- The reference's Quo of numbers. The reference's Quo, in Int's words. The reference's Gcd of numbers. -/
import Derived.Test.YtjghgbfagjhdgaaGreatDoorDOps
import Derived.Lib.MinMax
import Derived.Deep.LoopGhost
import Derived.RegionTactic
import Derived.BigRegion
namespace Go.Proofs.YtjghgbfagjhdgaaGreatDoor
open Go Go.RowKit

/-- The state of the division, k limbs of x to go. -/
structure Qs (w0 w : World) (s t : Bool) (u v : Value) (g l X Y k : Nat) (rest : Value) : Prop where
  four : DFour w0 w s t u v
  row : DRow w g l (D.hi (X / Y) k)
  rst : DSz w rest (X / D.B ^ k % Y)
  sep : ∀ p L c, rest = .slice (some p) L c → p.block ≠ g

set_option maxHeartbeats 3200000 in
set_option maxRecDepth 100000 in
theorem rquo_core {w : World} {A A' : Option Addr} {l l' c c' X Y : Nat} {s t : Bool} (hl : DL w A l X) (hl' : DL w A' l' Y) (hm' : l' = 0 ∨ D.B ^ (l' - 1) ≤ Y) (hY : 0 < Y) (hlk : l ≤ 20000) (hlk' : l' ≤ 20000) (hc' : l' ≤ c') :
    Calls Tryz.prog 127 #[.agg #[.bool s, .slice A l c], .agg #[.bool t, .slice A' l' c']] w fun e w' => ∃ q r, e = .returned (.tuple #[.agg #[.bool (decide (sg (s != t) (X / Y) < 0)), q], .agg #[.bool (decide (sg s (X % Y) < 0)), r]]) ∧ DSz w' q (X / Y) ∧ DSz w' r (X % Y) ∧ Below w.heap.size w w' := by
  have hl0 : 0 < l' := by
    rcases Nat.eq_zero_or_pos l' with h1 | h1
    · subst h1; have := hl'.1; simp at this; omega
    · exact h1
  obtain ⟨n, rfl⟩ : ∃ n, l' = n + 1 := ⟨l' - 1, by omega⟩
  have hmn : D.B ^ n ≤ Y := by
    rcases hm' with h | h
    · omega
    · exact h
  have hmk := make_ints l (by omega)
  have H := Lib.hid (And.intro hl (And.intro hl' (And.intro hmn hY)))
  clear hl hl' hm' hmn hY hl0
  go_enter Tryz.func127, Tryz.ntmps127
  go_wp2_with fail
  change Code.wp _ _ _ _ ((dbox4 w s t (.slice A l c) (.slice A' (n + 1) c')).alloc (.cells (madeCells #[Value.int .i64 0] l) 3))
  have hg0 : (dbox4 w s t (.slice A l c) (.slice A' (n + 1) c')).heap.size = w.heap.size + 1 + 1 + 1 + 1 := by simp [dbox4, dbox3]
  have hr0 := DRow.new (dbox4 w s t (.slice A l c) (.slice A' (n + 1) c')) l
  have hd0 := (dbox4_four w s t (.slice A l c) (.slice A' (n + 1) c')).alloc (.cells (madeCells #[Value.int .i64 0] l) 3)
  rw [hg0] at hr0
  clear hg0 hmk
  generalize (dbox4 w s t (.slice A l c) (.slice A' (n + 1) c')).alloc (.cells (madeCells #[Value.int .i64 0] l) 3) = W0 at *
  obtain ⟨g, hg⟩ : ∃ g, g = w.heap.size + 1 + 1 + 1 + 1 := ⟨_, rfl⟩
  rw [← hg] at hr0 ⊢
  have hgw : w.heap.size + 4 ≤ g := by omega
  have hx0 : X / D.B ^ l = 0 := Nat.div_eq_of_lt H.out.1.1
  have hq0 : DRow W0 g l (D.hi (X / Y) l) := by
    rw [D.hi_big (Nat.lt_of_le_of_lt (Nat.div_le_self _ _) H.out.1.1)]; exact hr0
  have H0 := Lib.hid (Qs.mk (k := l) hd0 hq0 (rest := .slice none 0 0) (by rw [hx0, Nat.zero_mod]; exact ⟨none, 0, 0, rfl, DL.none_ _ _, .inl rfl, Nat.le_refl _, Nat.zero_le _⟩) (by intro p L c h; injection h with h; cases h))
  clear hr0 hd0 hg hx0 hq0
  go_loopw [6, 8] (fun rv iv wr => ∃ k, k ≤ l ∧ iv = .int .i64 ((k : Int) - 1) ∧ Qs w wr s t (.slice A l c) (.slice A' (n + 1) c') g l X Y k rv) (fun _ iv _ => (intOf iv + 1).toNat)
  case atStart => exact ⟨l, Nat.le_refl _, rfl, H0.out⟩
  case round =>
    obtain ⟨k, hk, rfl, hq⟩ := hrel
    by_cases h0 : k = 0
    · subst h0
      have hrow := hq.row
      rw [D.hi_zero] at hrow
      have hrs := hq.rst
      rw [Nat.pow_zero, Nat.div_one] at hrs
      obtain ⟨Ar, Lr, cr, rfl, hlr, hmr, hcr, hcmr, hLr⟩ := hrs.open_ (Nat.lt_trans (Nat.mod_lt _ H.out.2.2.2) H.out.2.1.1)
      obtain ⟨sq, hsq⟩ : ∃ sq, sq = decide (sg (!(s == t)) (X / Y) < 0) := ⟨_, rfl⟩
      obtain ⟨sr, hsr⟩ : ∃ sr, sr = decide (sg s (X % Y) < 0) := ⟨_, rfl⟩
      have hD := hq.four.drew
      have HR := Lib.hid (And.intro hrow.limbs (And.intro hlr (And.intro hsq hsr)))
      have c00 := hq.four.c00
      have c10 := hq.four.c10
      have hA1 : l ≤ 100000 := by omega
      have hA2 : l ≤ maxLen := by unfold maxLen; omega
      have hA3 : Lr ≤ 100000 := by omega
      have hA4 : cr ≤ maxLen := by unfold maxLen; omega
      clear hrow hrs hlr hmr hsq hsr hq
      go_wp2_with fail
      go_region_held3 (fun w' => w'.cell? ⟨w.heap.size, 0, none⟩ = some (.bool s) ∧ w'.cell? ⟨w.heap.size + 1, 0, none⟩ = some (.bool t) ∧ DFour w w' s t (.slice A l c) (.slice A' (n + 1) c'))
        (first | exact ⟨q4.c00, q4.c10, q4⟩ | exact ⟨q3.c00, q3.c10, q3⟩ | exact ⟨q2.c00, q2.c10, q2⟩ | exact ⟨q1.c00, q1.c10, q1⟩ | exact ⟨hD.c00, hD.c10, hD⟩)
        (first
          | (go_at_call 180; go_split_ands; ((with_reducible refine (trim_big (!(s == t)) (HR.out.1.drew) hA1 (Nat.le_refl _) hA2).mono ?_); rw [← HR.out.2.2.1]; rintro e w1 ⟨tv, rfl, ⟨A2, L2, c2, rfl, hs2⟩, hb1⟩; have q1 : DFour w w1 s t (.slice A l c) (.slice A' (n + 1) c') := hD.op hb1; have hs1 : DSz w1 (.slice A2 L2 c2) (X / Y) := ⟨A2, L2, c2, rfl, hs2⟩; have HS1 := Lib.hid (And.intro hs1 (HR.out.2.1.drew.below hb1 (Nat.le_refl _))); clear hs1 hs2))
          | (go_at_call 180; go_split_ands; ((with_reducible refine (trim_big s HS1.out.2 hA3 hcr hA4).mono ?_); rw [← HR.out.2.2.2]; rintro e w2 ⟨tv, rfl, ⟨A3, L3, c3, rfl, hs3⟩, hb2⟩; have q2 : DFour w w2 s t (.slice A l c) (.slice A' (n + 1) c') := q1.op hb2; have hs4 : DSz w2 (.slice A3 L3 c3) (X % Y) := ⟨A3, L3, c3, rfl, hs3⟩; have HS2 := Lib.hid (And.intro (HS1.out.1.below hb2 (Nat.le_refl _)) hs4); clear hs4 hs3; obtain ⟨v20, r20⟩ := q2.r20; obtain ⟨v21, r21⟩ := q2.r21; obtain ⟨v30, r30⟩ := q2.r30; obtain ⟨v31, r31⟩ := q2.r31; have f20 := q2.f2 0; have f21 := q2.f2 1; have f30 := q2.f3 0; have f31 := q2.f3 1; have q3 := q2.res2 sq A2 L2 c2; have q4 := q3.res3 sr A3 L3 c3)))
      go_wp2
      have z0 := dres_cells q2.b2 sq (.slice A2 L2 c2)
      have z1 := dres_cells q3.b3 sr (.slice A3 L3 c3)
      have z2 := (dres_other (w := dres w2 (w.heap.size + 1 + 1) sq (.slice A2 L2 c2)) (r := w.heap.size + 1 + 1 + 1) (q := w.heap.size + 1 + 1) (i := 0) (by omega) sr (.slice A3 L3 c3)).trans z0.1
      have z3 := (dres_other (w := dres w2 (w.heap.size + 1 + 1) sq (.slice A2 L2 c2)) (r := w.heap.size + 1 + 1 + 1) (q := w.heap.size + 1 + 1) (i := 1) (by omega) sr (.slice A3 L3 c3)).trans z0.2
      have z4 := z1.1
      have z5 := z1.2
      have HE := Lib.hid (And.intro ((HS2.out.1.far q2.b2 sq (.slice A2 L2 c2)).far q3.b3 sr (.slice A3 L3 c3)) (And.intro ((HS2.out.2.far q2.b2 sq (.slice A2 L2 c2)).far q3.b3 sr (.slice A3 L3 c3)) q4.below))
      change bodyPost _ _ _ _ _ (dres (dres w2 (w.heap.size + 1 + 1) sq (.slice A2 L2 c2)) (w.heap.size + 1 + 1 + 1) sr (.slice A3 L3 c3))
      clear z0 z1 q1 q2 q3 q4
      generalize dres (dres w2 (w.heap.size + 1 + 1) sq (.slice A2 L2 c2)) (w.heap.size + 1 + 1 + 1) sr (.slice A3 L3 c3) = W3 at *
      exact bodyPost_ret (v := .tuple #[.agg #[.bool sq, .slice A2 L2 c2], .agg #[.bool sr, .slice A3 L3 c3]]) (by simp [results, Tryz.results127, go_sem, z2, z3, z4, z5]) rfl ⟨_, _, by rw [HR.out.2.2.1, HR.out.2.2.2]; rfl, HE.out.1, HE.out.2.1, HE.out.2.2⟩
    · obtain ⟨j, rfl⟩ : ∃ j, k = j + 1 := ⟨k - 1, by omega⟩
      rw [show (((j + 1 : Nat) : Int) - 1) = (j : Int) by omega]
      have hYl : X / D.B ^ (j + 1) % Y < D.B ^ (n + 1) := Nat.lt_trans (Nat.mod_lt _ H.out.2.2.2) H.out.2.1.1
      obtain ⟨Ar, Lr, cr, rfl, hlr, hmr, hcr, hcmr, hLr⟩ := hq.rst.open_ hYl
      obtain ⟨bx, ox, rfl, hbx, hcx0⟩ := (H.out.1.below hq.four.below (Nat.le_refl _)).at_ (show j < l by omega)
      have hcx := hcx0 j (by omega)
      have hst := D.rest_succ X Y j H.out.2.2.2
      obtain ⟨R, hR⟩ : ∃ R, R = X / D.B ^ (j + 1) % Y := ⟨_, rfl⟩
      rw [← hR] at hlr hmr hst
      obtain ⟨d, hd⟩ : ∃ d, d = D.dg X j := ⟨_, rfl⟩
      rw [← hd] at hcx hst
      have hd9 : d ≤ 999999999 := by rw [hd]; exact D.dg_le X j
      have hdB : d < D.B := by rw [D.B_eq]; omega
      obtain ⟨Rn, hRn⟩ : ∃ Rn, Rn = d + R * D.B := ⟨_, rfl⟩
      rw [show R * D.B + d = Rn by omega] at hst
      have c01 := hq.four.c01
      have HR := Lib.hid (And.intro hlr (And.intro hst (And.intro hR (And.intro hRn hq))))
      clear hq hlr hst hmr hcx0 hbx hRn hd hYl hR h0
      go_wp2_with (at_builtin; refine wpList_front rfl (.tmp 31) (.tmp 32) rfl rfl rfl HR.out.1 hdB (by omega) ?_; intro g1 cap1 w1 ho1 hb1 hg1)
      have hcc1 : Lr + 1 ≤ cap1 ∧ cap1 ≤ maxLen := by
        obtain ⟨_, _, h1, h2⟩ := ho1.block
        exact ⟨h1, h2⟩
      rw [← HR.out.2.2.2.1] at ho1
      refine (trim_at false ho1.limbs (by omega) hcc1.1).mono ?_
      rintro e w2 ⟨L2, hL21, rfl, hl2, hm2, hb2⟩
      have hsep : g1 ≠ g := by have := HR.out.2.2.2.2.row.lt; omega
      have hb12 : Below wr.heap.size wr w2 := hb1.trans (hb2.mono hb1.size)
      have hd2 : DFour w w2 s t (.slice (some ⟨bx, ox, none⟩) l c) (.slice A' (n + 1) c') := HR.out.2.2.2.2.four.op hb12
      have hrow2 := HR.out.2.2.2.2.row.below hb12 HR.out.2.2.2.2.row.lt
      obtain ⟨s0, hs0⟩ : ∃ s0, s0 = decide (sg false Rn < 0) := ⟨_, rfl⟩
      rw [← hs0]
      have hst := HR.out.2.1
      have hRn2 : Rn < D.B ^ (n + 2) := by
        have h1 := hst.2.2
        have h2 := Nat.mul_le_mul_right D.B (Nat.le_of_lt H.out.2.1.1)
        rw [← D.pow_succ'] at h2
        exact Nat.lt_of_lt_of_le h1 h2
      have hL2 := dlen_le hm2 hRn2
      have hcm1 := hcc1.2
      unfold maxLen at hcm1
      have hc2 : L2 ≤ cap1 := by omega
      have hfd := fun w => big_l s0 (.slice (some ⟨g1, 0, none⟩) L2 cap1) w
      have c11 := hd2.c11
      have HT := Lib.hid (And.intro hd2 (And.intro hrow2 (And.intro hst (And.intro hl2 (And.intro hm2 hRn2)))))
      clear HR ho1 hcc1 hb1 hb2 hb12 hd2 hrow2 hst hl2 hm2 hs0 hRn2 c01 hcx hg1
      go_wp2_with fail
      go_quiet (fail)
      have c11 : (w2.drewN nq).cell? ⟨w.heap.size + 1, 1, none⟩ = some (.slice A' (n + 1) c') := c11
      have HT : Hid (DFour w (w2.drewN nq) s t (.slice (some ⟨bx, ox, none⟩) l c) (.slice A' (n + 1) c') ∧ DRow (w2.drewN nq) g l (D.hi (X / Y) (j + 1)) ∧ _ ∧ DL (w2.drewN nq) (some ⟨g1, 0, none⟩) L2 Rn ∧ (L2 = 0 ∨ D.B ^ (L2 - 1) ≤ Rn) ∧ Rn < D.B ^ (n + 2)) :=
        Lib.hid ⟨HT.out.1.drewN _, HT.out.2.1.drewN _, HT.out.2.2.1, HT.out.2.2.2.1.drewN _, HT.out.2.2.2.2.1, HT.out.2.2.2.2.2⟩
      generalize w2.drewN nq = w3 at *
      by_cases hlt : Rn < Y
      · go_wp2_with fail
        refine (dsize_any cap1 c' HT.out.2.2.2.1 (H.out.2.1.below HT.out.1.below (Nat.le_refl _)) HT.out.2.2.2.2.1 (.inr H.out.2.2.1) (by omega) (by omega)).mono ?_
        rw [cmpI_lt (by omega : (Rn : Int) < Y)]
        rintro e w4 ⟨rfl, hdr⟩
        have hd4 := HT.out.1.drawn hdr
        have hrow4 : DRow w4 g l (D.hi (X / Y) (j + 1)) := by
          obtain ⟨i, rfl⟩ := hdr
          exact HT.out.2.1
        have hl4 := HT.out.2.2.2.1.drawn hdr
        have hcell := hrow4.cell (show j < l by omega)
        have hfree := hrow4.free j
        have hq0 : D.dg (X / Y) j = 0 := by rw [← HT.out.2.2.1.2.1, Nat.div_eq_of_lt hlt]
        have hset := hrow4.set (show j < l by omega) D.B_pos
        have hput := D.hi_put (X / Y) j
        rw [hq0] at hput
        rw [hput] at hset
        have hl5 := hl4.farInt (g := g) (j := j) (by rintro p hp; obtain rfl := Option.some.inj hp; exact hsep) (.int .i64 ((0 : Nat) : Int))
        have hrest : DSz (w4.setCell ⟨g, j, none⟩ (.int .i64 ((0 : Nat) : Int))) (.slice (some ⟨g1, 0, none⟩) L2 cap1) (X / D.B ^ j % Y) := by
          rw [← HT.out.2.2.1.1, Nat.mod_eq_of_lt hlt]
          exact ⟨_, L2, cap1, rfl, hl5, HT.out.2.2.2.2.1, hc2, hcm1⟩
        have HE := Lib.hid (Qs.mk (k := j) (hd4.far (p := ⟨g, j, none⟩) hgw _) hset hrest (by intro p L c h; injection h with h; obtain rfl := Option.some.inj h; exact hsep))
        clear hd4 hrow4 hl4 hl5 hq0 hset hput hrest hdr hlt
        go_wp2_with fail
        refine wp_loop_rounds 1 ?_
        rw [rounds_succ]
        go_wp2_with fail
        go_roundw
        case rel => exact ⟨j, by omega, rfl, HE.out⟩
        case measure => simp [intOf]
      · have hge : Y ≤ Rn := by omega
        have hLn : n < L2 := by
          rcases Nat.lt_or_ge n L2 with h1 | h1
          · exact h1
          · have h2 := D.pow_mono h1
            have h3 := HT.out.2.2.2.1.1
            have h4 := H.out.2.2.1
            omega
        have hyt := D.top_pos H.out.2.2.1 H.out.2.1.1
        have hyd := D.top_one H.out.2.1.1
        have hyt9 := D.dg_le Y n
        have hqd := HT.out.2.2.1.2.1
        have hq9 := D.dg_le (X / Y) j
        rw [← hqd] at hq9
        have hq1 : 1 ≤ Rn / Y := Nat.div_pos hge H.out.2.2.2
        have hehi := D.est_hi (r := Rn) (y := Y) (p := D.B ^ n) (by rw [hyd]; exact hyt)
        have helo := D.est_lo (r := Rn) (y := Y) (p := D.B ^ n) (D.pow_pos n) H.out.2.2.2
        rw [hyd] at hehi helo
        have ht1 := fun h => D.top_one (r := Rn) (n := n) h
        have ht2 := D.top_two (r := Rn) (n := n) HT.out.2.2.2.2.2
        have hd09 := D.dg_le Rn n
        have hd19 := D.dg_le Rn (n + 1)
        obtain ⟨q, hq⟩ : ∃ q, q = Rn / Y := ⟨_, rfl⟩
        obtain ⟨yt, hyte⟩ : ∃ yt, yt = D.dg Y n := ⟨_, rfl⟩
        obtain ⟨tp, htp⟩ : ∃ tp, tp = Rn / D.B ^ n := ⟨_, rfl⟩
        obtain ⟨d0, hd0⟩ : ∃ d0, d0 = D.dg Rn n := ⟨_, rfl⟩
        obtain ⟨d1, hd1⟩ : ∃ d1, d1 = D.dg Rn (n + 1) := ⟨_, rfl⟩
        rw [← hq] at hq9 hq1 hehi helo
        rw [← hyte] at hyt hyt9 hehi helo
        rw [← htp] at hehi helo ht1 ht2
        rw [← hd0] at ht1 ht2 hd09
        rw [← hd1] at ht2 hd19
        have ht2' : tp = d0 + d1 * 1000000000 := by rw [ht2, D.B_eq]
        have htpb : tp ≤ 999999999999999999 := by omega
        have hdy : ((yt : Int) == 0) = false := by rw [beq_eq_false_iff_ne]; omega
        obtain ⟨q1, hq1e⟩ : ∃ q1, q1 = tp / yt := ⟨_, rfl⟩
        obtain ⟨q2, hq2e⟩ : ∃ q2, q2 = tp / (yt + 1) := ⟨_, rfl⟩
        have hq1b : q1 ≤ tp := by rw [hq1e]; exact Nat.div_le_self _ _
        have hq2b : q2 ≤ tp := by rw [hq2e]; exact Nat.div_le_self _ _
        have htd1 : Int.tdiv (tp : Int) (yt : Int) = (q1 : Int) := by rw [hq1e]; rfl
        have htd2 : Int.tdiv (tp : Int) ((yt : Int) + 1) = (q2 : Int) := by rw [hq2e]; rfl
        have hed1 : (tp : Int) / (yt : Int) = (q1 : Int) := by rw [hq1e]; rfl
        have hed2 : (tp : Int) / ((yt : Int) + 1) = (q2 : Int) := by rw [hq2e]; rfl
        rw [← hq1e] at hehi
        rw [← hq2e] at helo
        have HM := Lib.hid (And.intro hq (And.intro hyte (And.intro hd0 (And.intro hd1 (And.intro ht1 (And.intro ht2' (And.intro hehi (And.intro helo (And.intro hqd hge)))))))))
        clear hq hyte htp hd0 hd1 ht1 ht2 ht2' hyd hehi helo hqd hge hq1e hq2e hlt
        go_wp2_with fail
        refine (dsize_any cap1 c' HT.out.2.2.2.1 (H.out.2.1.below HT.out.1.below (Nat.le_refl _)) HT.out.2.2.2.2.1 (.inr H.out.2.2.1) (by omega) (by omega)).mono ?_
        have hcm0 : 0 ≤ cmpI (Rn : Int) (Y : Int) := by
          rcases Int.lt_trichotomy (Rn : Int) Y with h1 | h1 | h1
          · have := HM.out.2.2.2.2.2.2.2.2.2; omega
          · rw [cmpI_eq h1]; omega
          · rw [cmpI_gt h1]; omega
        generalize cmpI (Rn : Int) (Y : Int) = cm at *
        rintro e w4 ⟨rfl, hdr⟩
        have hd4 := HT.out.1.drawn hdr
        have c11 := hd4.c11
        have hrow4 : DRow w4 g l (D.hi (X / Y) (j + 1)) := by
          obtain ⟨i, rfl⟩ := hdr
          exact HT.out.2.1
        have hl4 := HT.out.2.2.2.1.drawn hdr
        obtain ⟨byy, oy, rfl, hbyy, hcy0⟩ := (H.out.2.1.below hd4.below (Nat.le_refl _)).at_ (show n < n + 1 by omega)
        have hcy := hcy0 n (by omega)
        rw [← HM.out.2.1] at hcy
        obtain ⟨gg, og, hge1, hgg, hcr0⟩ := hl4.at_ hLn
        obtain ⟨rfl, rfl⟩ : g1 = gg ∧ 0 = og := by injection hge1 with hge1; injection hge1 with e1 e2 _; exact ⟨e1, e2⟩
        have hcr1 := hcr0 n hLn
        have hcr2 := fun h => hcr0 (n + 1) h
        rw [Nat.zero_add] at hcr1 hcr2
        rw [← HM.out.2.2.1] at hcr1
        rw [← HM.out.2.2.2.1] at hcr2
        have H4 := Lib.hid (And.intro hd4 (And.intro hrow4 hl4))
        clear hd4 hrow4 hl4 hdr hcy0 hcr0 hbyy hgg hge1
        by_cases hL2e : L2 ≤ n + 1
        focus
          have htt : tp = d0 := HM.out.2.2.2.2.1 (Nat.lt_of_lt_of_le H4.out.2.2.1 (D.pow_mono hL2e))
          rw [← htt] at hcr1
          clear hcr2 htt
          have hdec : decide ((n : Int) + 1 < (L2 : Int)) = false := decide_eq_false (by omega)
          go_wp2_with fail
        rotate_left
        focus
          have hL2e : n + 1 < L2 := by omega
          have hcr2' := hcr2 hL2e
          have hdec : decide ((n : Int) + 1 < (L2 : Int)) = true := decide_eq_true (by omega)
          have hsum : (d0 : Int) + (d1 : Int) * 1000000000 = (tp : Int) := by have := HM.out.2.2.2.2.2.1; omega
          clear hcr2
          go_wp2_with fail
          clear hsum hcr2'
        all_goals
          clear htd1 htd2 hed1 hed2 hcr1 hcy c11 hdy hdec
          have HMM := Lib.hid (show min (999999999 : Int) (min (q1 : Int) (q2 : Int)) = ((min 999999999 (min q1 q2) : Nat) : Int) ∧ min (999999999 : Int) (q1 : Int) = ((min 999999999 q1 : Nat) : Int) ∧ min 999999999 (min q1 q2) ≤ q ∧ q ≤ min 999999999 q1 ∧ min 999999999 q1 ≤ 999999999 by
            have := HM.out.2.2.2.2.2.2.1
            have := HM.out.2.2.2.2.2.2.2.1
            omega)
          obtain ⟨wo, rfl⟩ : ∃ wo : World, wo = w4 := ⟨_, rfl⟩
          go_loopw [9, 10] (fun lov hiv wr => ∃ lo hi : Nat, lov = .int .i64 (lo : Int) ∧ hiv = .int .i64 (hi : Int) ∧ lo ≤ q ∧ q ≤ hi ∧ hi ≤ 999999999 ∧ DFour w wr s t (.slice (some ⟨bx, ox, none⟩) l c) (.slice (some ⟨byy, oy, none⟩) (n + 1) c') ∧ DRow wr g l (D.hi (X / Y) (j + 1)) ∧ DL wr (some ⟨g1, 0, none⟩) L2 Rn) (fun lov hiv _ => (intOf hiv).toNat - (intOf lov).toNat)
          case atStart => exact ⟨_, _, by rw [HMM.out.1], by rw [HMM.out.2.1], HMM.out.2.2.1, HMM.out.2.2.2.1, HMM.out.2.2.2.2, H4.out.1, H4.out.2.1, H4.out.2.2⟩
          case round =>
            obtain ⟨lo, hi, rfl, rfl, hlo, hhi, hhi9, hd5, hrow5, hl5⟩ := hrel
            have c11 := hd5.c11
            have hly := H.out.2.1.below hd5.below (Nat.le_refl _)
            by_cases hlh : lo < hi
            · obtain ⟨mid, hmid⟩ : ∃ mid, mid = (lo + hi + 1) / 2 := ⟨_, rfl⟩
              have hmd : ((lo : Int) + (hi : Int) + 1) / 2 = (mid : Int) := by omega
              have hm1 : lo < mid := by omega
              have hm2 : mid ≤ hi := by omega
              have HL := Lib.hid (And.intro hd5 (And.intro hrow5 (And.intro hl5 hly)))
              clear hd5 hrow5 hl5 hly hmid
              go_wp2_with fail
              refine (dtimes_any c' HL.out.2.2.2 (by omega) (by omega)).mono ?_
              rintro e w6 ⟨tv, rfl, hts, hb6⟩
              have hYm : Y * mid < D.B ^ (n + 2) := by
                rw [D.pow_succ']
                exact Nat.mul_lt_mul'' H.out.2.1.1 (by rw [D.B_eq]; omega)
              obtain ⟨At, Lt, ct, rfl, hlt, hmt, hct, hcmt, hLt⟩ := hts.open_ hYm
              have hmq := Nat.le_div_iff_mul_le (x := mid) (y := Rn) H.out.2.2.2
              rw [← HM.out.1, Nat.mul_comm] at hmq
              have H6 := Lib.hid (And.intro (HL.out.1.op hb6) (And.intro (HL.out.2.1.below hb6 HL.out.2.1.lt) (And.intro (HL.out.2.2.1.below hb6 (Nat.le_refl _)) (And.intro hlt (And.intro hmt hmq)))))
              clear HL hts hb6 hlt hmt hmq hYm
              go_wp2_with fail
              refine (dsize_any ct cap1 H6.out.2.2.2.1 H6.out.2.2.1 H6.out.2.2.2.2.1 HT.out.2.2.2.2.1 (by omega) (by omega)).mono ?_
              by_cases hmq : mid ≤ q
              · have hcm6 : cmpI ((Y * mid : Nat) : Int) (Rn : Int) ≤ 0 := by
                  have := H6.out.2.2.2.2.2.1 hmq
                  rcases Int.lt_trichotomy ((Y * mid : Nat) : Int) Rn with h1 | h1 | h1
                  · rw [cmpI_lt h1]; omega
                  · rw [cmpI_eq h1]; omega
                  · omega
                generalize cmpI ((Y * mid : Nat) : Int) (Rn : Int) = cm2 at *
                rintro e w7 ⟨rfl, hdr⟩
                have HE := Lib.hid (And.intro (H6.out.1.drawn hdr) (And.intro (show DRow w7 g l (D.hi (X / Y) (j + 1)) by obtain ⟨i, rfl⟩ := hdr; exact H6.out.2.1) (H6.out.2.2.1.drawn hdr)))
                clear H6 hdr
                go_wp2_with fail
                go_roundw
                case rel => exact ⟨mid, hi, rfl, rfl, hmq, hhi, hhi9, HE.out.1, HE.out.2.1, HE.out.2.2⟩
                case measure => simp [intOf]; omega
              · have hcm6 : 0 < cmpI ((Y * mid : Nat) : Int) (Rn : Int) := by
                  rcases Int.lt_trichotomy ((Y * mid : Nat) : Int) Rn with h1 | h1 | h1
                  · exact absurd (H6.out.2.2.2.2.2.2 (by omega)) hmq
                  · exact absurd (H6.out.2.2.2.2.2.2 (by omega)) hmq
                  · rw [cmpI_gt h1]; omega
                generalize cmpI ((Y * mid : Nat) : Int) (Rn : Int) = cm2 at *
                rintro e w7 ⟨rfl, hdr⟩
                have HE := Lib.hid (And.intro (H6.out.1.drawn hdr) (And.intro (show DRow w7 g l (D.hi (X / Y) (j + 1)) by obtain ⟨i, rfl⟩ := hdr; exact H6.out.2.1) (H6.out.2.2.1.drawn hdr)))
                clear H6 hdr
                go_wp2_with fail
                go_roundw
                case rel => exact ⟨lo, mid - 1, rfl, by go_num, hlo, by omega, by omega, HE.out.1, HE.out.2.1, HE.out.2.2⟩
                case measure => simp [intOf]; omega
            · obtain rfl : lo = q := by omega
              obtain rfl : hi = lo := by omega
              have hcell := hrow5.cell (show j < l by omega)
              have hfree := hrow5.free j
              have hset := hrow5.set (show j < l by omega) (show hi < D.B by rw [D.B_eq]; omega)
              have hput := D.hi_put (X / Y) j
              rw [← HM.out.2.2.2.2.2.2.2.2.1, ← HM.out.1] at hput
              rw [hput] at hset
              have c11' := (hd5.far (p := ⟨g, j, none⟩) hgw (.int .i64 (hi : Int))).c11
              have H5 := Lib.hid (And.intro (hd5.far (p := ⟨g, j, none⟩) hgw (.int .i64 (hi : Int))) (And.intro hset (hl5.farInt (g := g) (j := j) (by rintro p hp; obtain rfl := Option.some.inj hp; exact hsep) (.int .i64 (hi : Int)))))
              clear hd5 hrow5 hset hput hl5 hly c11
              go_wp2_with fail
              generalize wr.setCell ⟨g, j, none⟩ (.int .i64 (hi : Int)) = w6 at *
              refine (dtimes_any c' (H.out.2.1.below H5.out.1.below (Nat.le_refl _)) (by omega) (by omega)).mono ?_
              rintro e w7 ⟨tv, rfl, hts, hb7⟩
              have hYm : Y * hi < D.B ^ (n + 2) := by
                rw [D.pow_succ']
                exact Nat.mul_lt_mul'' H.out.2.1.1 (by rw [D.B_eq]; omega)
              obtain ⟨At, Lt, ct, rfl, hlt, hmt, hct, hcmt, hLt⟩ := hts.open_ hYm
              have hle : Y * hi ≤ Rn := by rw [HM.out.1, Nat.mul_comm]; exact Nat.div_mul_le_self _ _
              have hmod : Rn - Y * hi = X / D.B ^ j % Y := by
                rw [← HT.out.2.2.1.1, HM.out.1]
                have := Nat.mod_add_div Rn Y
                omega
              have H7 := Lib.hid (And.intro (H5.out.1.op hb7) (And.intro (H5.out.2.1.below hb7 H5.out.2.1.lt) (And.intro (H5.out.2.2.below hb7 (Nat.le_refl _)) (And.intro hlt (And.intro hle hmod)))))
              clear H5 hts hb7 hlt hmt hle hmod hYm
              go_wp2_with fail
              refine (dminus_any cap1 ct H7.out.2.2.1 H7.out.2.2.2.1 H7.out.2.2.2.2.1 (by omega) (by omega) (by omega)).mono ?_
              rintro e w8 ⟨g8, cap8, rfl, ho8, hb8, hg8⟩
              have hcc8 : L2 ≤ cap8 ∧ cap8 ≤ maxLen := by
                obtain ⟨_, _, h1, h2⟩ := ho8.block
                exact ⟨h1, h2⟩
              obtain ⟨hcc8, hcm8⟩ := hcc8
              have hcm8' := hcm8
              unfold maxLen at hcm8'
              have hg8n : g8 ≠ g := by have := H7.out.2.1.lt; omega
              have H8 := Lib.hid (And.intro (H7.out.1.op hb8) (And.intro (H7.out.2.1.below hb8 H7.out.2.1.lt) (And.intro ho8.limbs (And.intro H7.out.2.2.2.2.2 hg8n))))
              clear H7 ho8 hb8 hg8 hg8n
              go_wp2_with fail
              refine (trim_at false H8.out.2.2.1 (by omega) hcc8).mono ?_
              rintro e w9 ⟨L9, hL9, rfl, hl9, hm9, hb9⟩
              rw [H8.out.2.2.2.1] at hl9 hm9 ⊢
              obtain ⟨s9, hs9⟩ : ∃ s9, s9 = decide (sg false (X / D.B ^ j % Y) < 0) := ⟨_, rfl⟩
              rw [← hs9]
              have hfd9 := fun w => big_l s9 (.slice (some ⟨g8, 0, none⟩) L9 cap8) w
              have HE := Lib.hid (Qs.mk (k := j) (rest := .slice (some ⟨g8, 0, none⟩) L9 cap8) (H8.out.1.op hb9) (H8.out.2.1.below hb9 H8.out.2.1.lt) ⟨_, L9, cap8, rfl, hl9, hm9, by omega, hcm8⟩ (by intro p L c h; injection h with h; obtain rfl := Option.some.inj h; exact H8.out.2.2.2.2))
              clear H8 hl9 hm9 hb9 hs9 hcm8
              go_wp2_with fail
              go_roundw
              case rel => exact ⟨j, by omega, rfl, HE.out⟩
              case measure => simp [intOf]
end Go.Proofs.YtjghgbfagjhdgaaGreatDoor
namespace Go.Proofs.YtjghgbfagjhdgaaGreatDoor
open Go Go.RowKit

theorem tdiv_sg {x y : Int} : sg (decide (x < 0) != decide (y < 0)) (x.natAbs / y.natAbs) = x.tdiv y := by
  unfold sg
  by_cases hx : x < 0 <;> by_cases hy : y < 0
  · rw [decide_eq_true hx, decide_eq_true hy]
    obtain ⟨a, rfl⟩ : ∃ a : Nat, x = -(a : Int) := ⟨x.natAbs, by omega⟩
    obtain ⟨b, rfl⟩ : ∃ b : Nat, y = -(b : Int) := ⟨y.natAbs, by omega⟩
    rw [Int.neg_tdiv, Int.tdiv_neg, Int.natAbs_neg, Int.natAbs_neg]
    simp
  · rw [decide_eq_true hx, decide_eq_false hy]
    obtain ⟨a, rfl⟩ : ∃ a : Nat, x = -(a : Int) := ⟨x.natAbs, by omega⟩
    obtain ⟨b, rfl⟩ : ∃ b : Nat, y = (b : Int) := ⟨y.natAbs, by omega⟩
    rw [Int.neg_tdiv, Int.natAbs_neg]
    simp
  · rw [decide_eq_false hx, decide_eq_true hy]
    obtain ⟨a, rfl⟩ : ∃ a : Nat, x = (a : Int) := ⟨x.natAbs, by omega⟩
    obtain ⟨b, rfl⟩ : ∃ b : Nat, y = -(b : Int) := ⟨y.natAbs, by omega⟩
    rw [Int.tdiv_neg, Int.natAbs_neg]
    simp
  · rw [decide_eq_false hx, decide_eq_false hy]
    obtain ⟨a, rfl⟩ : ∃ a : Nat, x = (a : Int) := ⟨x.natAbs, by omega⟩
    obtain ⟨b, rfl⟩ : ∃ b : Nat, y = (b : Int) := ⟨y.natAbs, by omega⟩
    simp
theorem tmod_sg {x y : Int} : sg (decide (x < 0)) (x.natAbs % y.natAbs) = x.tmod y := by
  unfold sg
  have hm : ∀ a b : Nat, ((a % b : Nat) : Int) = Int.tmod (a : Int) (b : Int) := fun a b => rfl
  by_cases hx : x < 0
  · rw [decide_eq_true hx, if_pos rfl]
    obtain ⟨a, rfl⟩ : ∃ a : Nat, x = -(a : Int) := ⟨x.natAbs, by omega⟩
    rw [Int.neg_tmod, Int.natAbs_neg]
    rcases Int.natAbs_eq y with h | h
    · rw [h, hm]; simp
    · rw [h, Int.tmod_neg, hm]; simp
  · rw [decide_eq_false hx, if_neg Bool.false_ne_true]
    obtain ⟨a, rfl⟩ : ∃ a : Nat, x = (a : Int) := ⟨x.natAbs, by omega⟩
    rcases Int.natAbs_eq y with h | h
    · rw [h, hm]; simp
    · rw [h, Int.tmod_neg, hm]; simp
theorem rquo_any {w : World} {u v : Value} {x y : Int} {k : Nat} (hx : DBig w u x) (hy : DBig w v y) (hy0 : y ≠ 0) (bx : x.natAbs < D.B ^ k) (by_ : y.natAbs < D.B ^ k) (hk : k ≤ 20000) :
    Calls Tryz.prog 127 #[u, v] w fun e w' => ∃ q r, e = .returned (.tuple #[.agg #[.bool (decide (x.tdiv y < 0)), q], .agg #[.bool (decide (x.tmod y < 0)), r]]) ∧ DSz w' q (x.tdiv y).natAbs ∧ DSz w' r (x.tmod y).natAbs ∧ Below w.heap.size w w' := by
  obtain ⟨A, l, c, rfl, hl, hm, hc, hcm, hlk⟩ := hx.open_ bx
  obtain ⟨A', l', c', rfl, hl', hm', hc', hcm', hlk'⟩ := hy.open_ by_
  refine (rquo_core (s := decide (x < 0)) (t := decide (y < 0)) hl hl' hm' (by omega) (by omega) (by omega) hc').mono ?_
  rintro e w' ⟨q, r, rfl, hq, hr, hb⟩
  refine ⟨q, r, by rw [tdiv_sg, tmod_sg], ?_, ?_, hb⟩
  · rw [← tdiv_sg, sg_abs]; exact hq
  · rw [← tmod_sg, sg_abs]; exact hr
end Go.Proofs.YtjghgbfagjhdgaaGreatDoor
namespace Go.Proofs.YtjghgbfagjhdgaaGreatDoor
open Go Go.RowKit

theorem DSz.alloc {w : World} {v : Value} {n : Nat} (h : DSz w v n) (o : Obj) : DSz (w.alloc o) v n := h.below ((Below.refl w.heap.size w).alloc (Nat.le_refl _) o) (Nat.le_refl _)
set_option maxHeartbeats 1600000 in
set_option maxRecDepth 100000 in
theorem rgcd_any {w : World} {u v : Value} {x y : Int} {k : Nat} (hx : DBig w u x) (hy : DBig w v y) (bx : x.natAbs < D.B ^ k) (by_ : y.natAbs < D.B ^ k) (hk : k ≤ 20000) :
    Calls Tryz.prog 126 #[u, v] w fun e w' => ∃ s, e = .returned (.agg #[.bool false, s]) ∧ DSz w' s (Int.gcd x y) ∧ Below w.heap.size w w' := by
  obtain ⟨A, l, c, rfl, hl, hm, hc, hcm, hlk⟩ := hx.open_ bx
  obtain ⟨A', l', c', rfl, hl', hm', hc', hcm', hlk'⟩ := hy.open_ by_
  have hd := dbox3_two w false false (.slice A l c) (.slice A' l' c')
  have hu : DSz (dbox3 w false false (.slice A l c) (.slice A' l' c')) (.slice A l c) x.natAbs := ⟨A, l, c, rfl, hl.below hd.below (Nat.le_refl _), hm, hc, by unfold maxLen; omega⟩
  have hv : DSz (dbox3 w false false (.slice A l c) (.slice A' l' c')) (.slice A' l' c') y.natAbs := ⟨A', l', c', rfl, hl'.below hd.below (Nat.le_refl _), hm', hc', by unfold maxLen; omega⟩
  have H := Lib.hid (And.intro hd (And.intro hu (And.intro hv (And.intro bx by_))))
  clear hx hy hl hl' hm hm' hd hu hv bx by_ hc hc' hcm hcm' hlk hlk'
  generalize decide (x < 0) = s at *
  generalize decide (y < 0) = t at *
  go_enter Tryz.func126, Tryz.ntmps126
  go_wp2_with fail
  change Code.wp _ _ _ _ (dbox3 w false false (.slice A l c) (.slice A' l' c'))
  generalize dbox3 w false false (.slice A l c) (.slice A' l' c') = W0 at *
  go_loopg [] (y.natAbs) (fun g wr => ∃ a u v, DTwo w wr false false u v ∧ DSz wr u a ∧ DSz wr v g ∧ a < D.B ^ k ∧ g < D.B ^ k ∧ Nat.gcd a g = Int.gcd x y)
  case atStart => exact ⟨x.natAbs, _, _, H.out.1, H.out.2.1, H.out.2.2.1, H.out.2.2.2.1, H.out.2.2.2.2, rfl⟩
  case round =>
    obtain ⟨a, u, v, hd, hu, hv, ba, bg, hG⟩ := hrel
    obtain ⟨A1, L1, c1, rfl, hl1, hm1, hc1, hcm1, hL1⟩ := hu.open_ ba
    obtain ⟨A2, L2, c2, rfl, hl2, hm2, hc2, hcm2, hL2⟩ := hv.open_ bg
    have hz := dlen_zero hm2 hl2.1
    have c00 := hd.c00
    have c01 := hd.c01
    have c10 := hd.c10
    have c11 := hd.c11
    by_cases h0 : L2 = 0
    · subst h0
      have hg0 : gk = 0 := hz.1 rfl
      subst hg0
      rw [Nat.gcd_zero_right] at hG
      subst hG
      obtain ⟨v0, r0⟩ := hd.r0
      obtain ⟨v1, r1⟩ := hd.r1
      have rf0 := hd.f2 0
      have rf1 := hd.f2 1
      have HF := Lib.hid (And.intro (hd.done false A1 L1 c1) (hu.far hd.b2 false (.slice A1 L1 c1)))
      clear hd hu hv hl1 hl2 hm1 hm2 hz bg ba
      go_wp2
      change bodyPost _ _ _ _ _ (dres wr (w.heap.size + 1 + 1) false (.slice A1 L1 c1))
      obtain ⟨⟨z0, z1, z2⟩, z3⟩ := HF.out
      generalize dres wr (w.heap.size + 1 + 1) false (.slice A1 L1 c1) = W3 at *
      exact bodyPost_ret (v := .agg #[.bool false, .slice A1 L1 c1]) (by simp [results, Tryz.results126, go_sem, z0, z1]) rfl ⟨_, rfl, z3, z2⟩
    · have hg0 : 0 < gk := by omega
      have hL20 : 0 < L2 := by omega
      have HR := Lib.hid (And.intro hd (And.intro hl1 (And.intro hl2 (And.intro hm2 (And.intro hv (And.intro bg hG))))))
      clear hd hu hv hl1 hl2 hm1 hm2 hz ba bg hG h0
      go_wp2_with fail
      refine (rquo_core HR.out.2.1 HR.out.2.2.1 HR.out.2.2.2.1 hg0 (by omega) (by omega) hc2).mono ?_
      rw [show decide (sg false (a % gk) < 0) = false by rw [sg_neg]; rfl]
      generalize decide (sg (false != false) (a / gk) < 0) = sq at *
      rintro e w1 ⟨q, r, rfl, ⟨A3, L3, c3, rfl, hs3⟩, ⟨A4, L4, c4, rfl, hs4⟩, hb1⟩
      have hq : DSz w1 (.slice A3 L3 c3) (a / gk) := ⟨A3, L3, c3, rfl, hs3⟩
      have hr : DSz w1 (.slice A4 L4 c4) (a % gk) := ⟨A4, L4, c4, rfl, hs4⟩
      have hd1 := HR.out.1.op hb1
      have hd2 := (hd1.alloc (.cells #[.bool sq, .slice A3 L3 c3] 94)).alloc (.cells #[.bool false, .slice A4 L4 c4] 94)
      have hr2 := (hr.alloc (.cells #[.bool sq, .slice A3 L3 c3] 94)).alloc (.cells #[.bool false, .slice A4 L4 c4] 94)
      have hv2 := ((HR.out.2.2.2.2.1.below hb1 (Nat.le_refl _)).alloc (.cells #[.bool sq, .slice A3 L3 c3] 94)).alloc (.cells #[.bool false, .slice A4 L4 c4] 94)
      have c00 := hd1.c00
      have c01 := hd1.c01
      have c10 := hd1.c10
      have c11 := hd1.c11
      have f00 := hd1.f0 0
      have f01 := hd1.f0 1
      have f10 := hd1.f1 0
      have f11 := hd1.f1 1
      have hgt : w.heap.size + 3 ≤ w1.heap.size := hd1.size
      have H2 := Lib.hid (And.intro hd2 (And.intro hr2 (And.intro hv2 (And.intro HR.out.2.2.2.2.2.1 (And.intro (Nat.lt_trans (Nat.mod_lt a hg0) HR.out.2.2.2.2.2.1) HR.out.2.2.2.2.2.2)))))
      clear HR hd1 hd2 hr2 hv2 hq hr hs3 hs4 hb1
      go_wp2_with fail
      have n0 : ((w1.alloc (.cells #[.bool sq, .slice A3 L3 c3] 94)).alloc (.cells #[.bool false, .slice A4 L4 c4] 94)).cell? ⟨w1.heap.size + 1, 0, none⟩ = some (.bool false) := by go_cell
      have n1 : ((w1.alloc (.cells #[.bool sq, .slice A3 L3 c3] 94)).alloc (.cells #[.bool false, .slice A4 L4 c4] 94)).cell? ⟨w1.heap.size + 1, 1, none⟩ = some (.slice A4 L4 c4) := by go_cell
      have c00 := H2.out.1.c00
      have c01 := H2.out.1.c01
      have c10 := H2.out.1.c10
      have c11 := H2.out.1.c11
      have f00 := H2.out.1.f0 0
      have f01 := H2.out.1.f0 1
      have f10 := H2.out.1.f1 0
      have f11 := H2.out.1.f1 1
      generalize (w1.alloc (.cells #[.bool sq, .slice A3 L3 c3] 94)).alloc (.cells #[.bool false, .slice A4 L4 c4] 94) = W2 at *
      have p1 := (((H2.out.1.put0 false).put01 (.slice A2 L2 c2)).put1 false).put11 (.slice A4 L4 c4)
      have e0 : ∃ (x : Bool) (A : Option Addr) (L c : Nat), W2.heap[w.heap.size]? = some (.cells #[.bool x, .slice A L c] 94 (0, 0)) := ⟨_, _, _, _, H2.out.1.b0⟩
      have e1 : ∃ (x : Bool) (A : Option Addr) (L c : Nat), (dres W2 w.heap.size false (.slice A2 L2 c2)).heap[w.heap.size + 1]? = some (.cells #[.bool x, .slice A L c] 94 (0, 0)) := ⟨_, _, _, _, ((H2.out.1.put0 false).put01 (.slice A2 L2 c2)).b1⟩
      have s1 := (H2.out.2.1.far e0 false (.slice A2 L2 c2)).far e1 false (.slice A4 L4 c4)
      have s2 := (H2.out.2.2.1.far e0 false (.slice A2 L2 c2)).far e1 false (.slice A4 L4 c4)
      have hG2 : Nat.gcd gk (a % gk) = Int.gcd x y := by rw [← H2.out.2.2.2.2.2, Nat.gcd_comm gk, ← Nat.gcd_rec, Nat.gcd_comm]
      have H3 := Lib.hid (And.intro p1 (And.intro s2 (And.intro s1 (And.intro H2.out.2.2.2.1 (And.intro H2.out.2.2.2.2.1 hG2)))))
      have hml := Nat.mod_lt a hg0
      clear H2 p1 e0 e1 s1 s2 hG2
      go_region
      go_wp2
      go_roundg (a % gk)
      case measure => exact hml
      case rel => exact ⟨gk, _, _, H3.out.1.drew, H3.out.2.1.drew, H3.out.2.2.1.drew, H3.out.2.2.2.1, H3.out.2.2.2.2.1, H3.out.2.2.2.2.2⟩
end Go.Proofs.YtjghgbfagjhdgaaGreatDoor
