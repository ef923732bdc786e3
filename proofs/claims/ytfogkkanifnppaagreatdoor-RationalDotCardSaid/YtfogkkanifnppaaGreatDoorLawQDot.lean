/- The law RationalDot. -/
import Derived.Test.YtfogkkanifnppaaGreatDoorQDotP
import Derived.Maps.AppendAt
import Derived.Deep.RegionHeld3
namespace Go.Proofs.YtfogkkanifnppaaGreatDoor
open Go Go.RowKit

/-- The two lists that the loop makes, behind base, in blocks apart. -/
def Ones (w : World) (base : Nat) (so sb : Value) (i : Nat) (tos tbs : List ByteArray) : Prop :=
  w.ownsRow base 25 1 so i (tos.map Value.string) ∧ w.ownsRow base 25 1 sb i (tbs.map Value.string) ∧ tos.length = i ∧ tbs.length = i ∧ ∀ k, so.ownBlock = some k → sb.ownBlock ≠ some k
theorem own_below {w w' : World} {base n size : Nat} {e : TypeId} {v : Value} {xs : List Value} (h : w.ownsRow base e size v n xs) (hb : Below w.heap.size w w') : w'.ownsRow base e size v n xs := by
  refine ⟨h.1, ?_⟩
  rcases h.2 with h1 | ⟨g', cap', cur, h', h2, hg', h3⟩
  · exact .inl h1
  · exact .inr ⟨g', cap', cur, h', h2, (hb.block g' (lt_of_block hg')).trans hg', h3⟩
theorem RList.keep {w w' : World} {g base n : Nat} {v : Value} {ts : List ByteArray} (h : RList w base v n ts) (hb : Src1 g w w') (hg : g < base) : RList w' base v n ts := ⟨own_src h.1 hb hg, h.2⟩
theorem RList.small {w : World} {base n : Nat} {v : Value} {ts : List ByteArray} (h : RList w base v n ts) : ∃ X : Nat → Rat, ∀ i, i < n → QN (txtL ts i) (X i) 1 := by
  have hx : ∀ i, ∃ x, i < n → QN (txtL ts i) x 1 := fun i => by
    by_cases hi : i < n
    · have hi' : i < ts.length := by rw [h.2.1]; exact hi
      obtain ⟨x, hx⟩ := h.2.2 ts[i] (List.getElem_mem hi')
      exact ⟨x, fun _ => by simp only [txtL, List.getElem?_eq_getElem hi', Option.getD_some]; exact hx⟩
    · exact ⟨0, fun h => absurd h hi⟩
  obtain ⟨X, hX⟩ := Classical.axiomOfChoice hx
  exact ⟨X, hX⟩
theorem qdig_of_lt {x : Rat} {k : Nat} (h1 : 1 ≤ k) (h : F.Lt (10 ^ k) x) : qdig (some x) ≤ k := Nat.max_le.2 ⟨nDigits_le h1 h.1, nDigits_le h1 h.2⟩
theorem small3_of {n : Nat} {ta : Nat → ByteArray} {X : Nat → Rat} {k : Nat} (h1 : 1 ≤ k) (hk : k ≤ 3) (h : ∀ i, i < n → QN (ta i) (X i) k) : Small3 n ta X :=
  fun i hi => ⟨(h i hi).short, (h i hi).rd, Nat.le_trans (qdig_of_lt h1 (h i hi).2) hk⟩
theorem txtL_append {ts : List ByteArray} {t : ByteArray} {i : Nat} : txtL (ts ++ [t]) i = if i < ts.length then txtL ts i else if i = ts.length then t else ⟨#[]⟩ := by
  unfold txtL
  by_cases h : i < ts.length
  · rw [if_pos h, List.getElem?_append_left h]
  · rw [if_neg h, List.getElem?_append_right (by omega)]
    by_cases h2 : i = ts.length
    · rw [if_pos h2, h2, Nat.sub_self]; rfl
    · rw [if_neg h2]
      obtain ⟨d, hd⟩ : ∃ d, i - ts.length = d + 1 := ⟨i - ts.length - 1, by omega⟩
      rw [hd]; rfl
set_option linter.unusedSimpArgs false in
set_option maxHeartbeats 6400000 in
set_option maxRecDepth 100000 in
theorem law_qdot {w : World} {A : Option Addr} {n c : Nat} (u : Int) (ht : Tab w) (hm : Lx w) (h : Nums w A n) (hc : n ≤ c) (hcm : c ≤ maxLen) :
    Calls Tryz.prog 10 #[.slice A n c, .int .u8 u] w fun e w' => e = .returned (.bool true) ∧ Below w.heap.size w w' := by
  obtain ⟨ei, hi, hz, hss, hbs⟩ := info_parts infoRat
  have HI := Lib.hid (And.intro hi (And.intro hz (And.intro hss hbs)))
  clear hi hz hss hbs
  have H := Lib.hid (And.intro ht (And.intro hm h))
  clear ht hm h
  go_enter Tryz.func10, Tryz.ntmps10
  go_wp2_with fail
  refine (QRun.new H.out.1 H.out.2.1 H.out.2.2 hc hcm).mono ?_
  rintro e w0 ⟨g, rfl, H0⟩
  go_wp2_with fail
  refine (n_src 7 H0.out.1.2.1 (by omega) (by omega)).mono ?_
  rintro e w1 ⟨r, rfl, ⟨hr0, hr1⟩, hs, hb⟩
  obtain ⟨m, rfl⟩ : ∃ m : Nat, r = (m : Int) := ⟨r.toNat, by omega⟩
  have hm6 : m ≤ 6 := by omega
  clear hr0 hr1
  have H1 := Lib.hid (show QRun w g w1 from ⟨H0.out.1.big hs hb.1, H0.out.2⟩)
  clear hs hb H0
  go_wp2_with fail
  refine (rats_src H1.out.1.2.1 (by omega)).mono ?_
  rintro e w2 ⟨vx, tx, rfl, hx, hs, hb⟩
  have hgx : g < w1.heap.size := H1.out.1.2.1.lt
  have H2 := Lib.hid (And.intro hx (show QRun w g w2 from ⟨H1.out.1.big hs hb.1, H1.out.2⟩))
  clear hs hb hx
  go_wp2_with fail
  refine (rats_src H2.out.2.1.2.1 (by omega)).mono ?_
  rintro e w3 ⟨vy, ty, rfl, hy, hs, hb⟩
  have hgy : g < w2.heap.size := H2.out.2.1.2.1.lt
  have H3 := Lib.hid (And.intro (H2.out.1.keep hb hgx) (And.intro hy (show QRun w g w3 from ⟨H2.out.2.1.big hs hb.1, H2.out.2.2⟩)))
  clear hs hb hy H2
  go_wp2_with fail
  refine (rats_src H3.out.2.2.1.2.1 (by omega)).mono ?_
  rintro e w4 ⟨vz, tz, rfl, hz, hs, hb⟩
  have H4 := Lib.hid (And.intro (H3.out.1.keep hb hgx) (And.intro (H3.out.2.1.keep hb hgy) (And.intro hz (show QRun w g w4 from ⟨H3.out.2.2.1.big hs hb.1, H3.out.2.2.2⟩))))
  clear hs hb hz H3 H1 hgx hgy
  obtain ⟨X, hX⟩ := H4.out.1.small
  obtain ⟨Y, hY⟩ := H4.out.2.1.small
  obtain ⟨Z, hZ⟩ := H4.out.2.2.1.small
  obtain ⟨Ax, cx, rfl, hLx⟩ := own_form H4.out.1.1 H4.out.1.2.1
  obtain ⟨Ay, cy, rfl, hLy⟩ := own_form H4.out.2.1.1 H4.out.2.1.2.1
  obtain ⟨Az, cz, rfl, hLz⟩ := own_form H4.out.2.2.1.1 H4.out.2.2.1.2.1
  have HX := Lib.hid (And.intro hX (And.intro hY hZ))
  have HL := Lib.hid (And.intro hLx (And.intro hLy hLz))
  have HQ := Lib.hid H4.out.2.2.2
  clear hX hY hZ hLx hLy hLz H4
  go_wp2_with fail
  go_loopg [10, 11, 42] m (fun gh v10 v11 iv wr => ∃ (so sb : Value) (i : Nat) (tos tbs : List ByteArray), i + gh = m ∧ v10 = so ∧ v11 = sb ∧ iv = .int .i64 (i : Int) ∧ Ones wr w4.heap.size so sb i tos tbs ∧ (∀ j, j < i → txtL tos j = ⟨#[49]⟩) ∧ (∀ j, j < i → txtL tbs j = ⟨(rtx (Y j + Z j)).toArray⟩) ∧ Below w4.heap.size w4 wr)
  case atStart => exact ⟨_, _, 0, [], [], by omega, rfl, rfl, rfl, ⟨⟨rfl, .inl ⟨rfl, rfl⟩⟩, ⟨rfl, .inl ⟨rfl, rfl⟩⟩, rfl, rfl, fun k h => by simp [Value.ownBlock] at h⟩, fun _ h => absurd h (by omega), fun _ h => absurd h (by omega), Below.refl _ _⟩
  case round =>
    obtain ⟨so, sb, i, tos, tbs, hi, hso, hsb, rfl, ho, ho1, ho2, hbl⟩ := hrel
    have hso2 := hso.symm
    have hsb2 := hsb.symm
    clear hso hsb
    subst hso2 hsb2
    have HR := Lib.hid (And.intro ho (And.intro ho1 (And.intro ho2 hbl)))
    clear ho ho1 ho2 hbl
    by_cases hin : i < m
    · have hsz0 : w4.heap.size ≤ wr.heap.size := HR.out.2.2.2.size
      go_wp2_with (at_builtin; refine wpList_append_own_at _ rfl (.tmp 45) (.tmp 46) 44 rfl w4.heap.size 25 ei (.string ⟨#[]⟩) 1 16 Tryz.underlying44 HI.out.1 HI.out.2.1 HI.out.2.2.1 HI.out.2.2.2 rfl (by decide) so i (tos.map Value.string) rfl (HR.out.1.1.alloc _) ⟨wr.heap.size, 0, none⟩ 1 1 [.string ⟨#[49]⟩] rfl rfl (by intro j u hj; match j, hj with | 0, hj => simp at hj; subst hj; simp [Addr.add]) (by intro u hu; simp at hu; subst hu; rfl) (by unfold maxLen; omega) (by omega) (by simp; omega) ?_; intro v' wn hown hgrow hnil hblk; have HG := Lib.hid (And.intro hown (And.intro hgrow hblk)); clear hown hgrow hnil hblk)
      have hrow : ∀ k, so.ownBlock = some k → w4.heap.size ≤ k := fun k hk => (HR.out.1.1.lt k hk).1
      have hsbl : ∀ k, sb.ownBlock = some k → k < wr.heap.size := fun k hk => (HR.out.1.2.1.lt k hk).2
      have hne : sb.ownBlock = none ∨ sb.ownBlock ≠ so.ownBlock := by
        cases hs : sb.ownBlock with
        | none => exact .inl rfl
        | some k => exact .inr fun e => HR.out.1.2.2.2.2 k e.symm hs
      have hap : ∀ k, v'.ownBlock = some k → sb.ownBlock ≠ some k := fun k hk he => by
        rcases HG.out.2.2 with h1 | h1
        · rw [h1] at hk; exact HR.out.1.2.2.2.2 k hk he
        · rw [h1] at hk
          have h2 := hsbl k he
          have h3 : k = (wr.alloc (.cells #[.string ⟨#[49]⟩] 25)).heap.size := (Option.some.inj hk).symm
          simp at h3
          omega
      have hB1 : Below w4.heap.size w4 wn := ((HR.out.2.2.2.alloc hsz0 (.cells #[.string ⟨#[49]⟩] 25)).grown HG.out.2.1 (by simp; omega) hrow)
      have hsb1 := (HR.out.1.2.1.alloc (.cells #[.string ⟨#[49]⟩] 25)).kept HG.out.2.1 hne
      have HO := Lib.hid (And.intro HG.out.1 (And.intro hsb1 (And.intro hap hB1)))
      clear hrow hsbl hne hap hsb1
      obtain ⟨by_, oy, rfl, hby, hcy⟩ := HL.out.2.1 (by omega)
      obtain ⟨bz, oz, rfl, hbz, hcz⟩ := HL.out.2.2 (by omega)
      have cyw := (hB1.cell (p := ⟨by_, oy + i, none⟩) hby).trans (hcy i hin)
      have czw := (hB1.cell (p := ⟨bz, oz + i, none⟩) hbz).trans (hcz i hin)
      have hbyn : by_ < wn.heap.size := Nat.lt_of_lt_of_le hby hB1.size
      have hbzn : bz < wn.heap.size := Nat.lt_of_lt_of_le hbz hB1.size
      have hsy := HX.out.2.1 i hin
      have hsz := HX.out.2.2 i hin
      obtain ⟨sy, hsy1⟩ : ∃ s, s = txtL ty i := ⟨_, rfl⟩
      obtain ⟨sz, hsz1⟩ : ∃ s, s = txtL tz i := ⟨_, rfl⟩
      obtain ⟨sw, hsw⟩ : ∃ s : ByteArray, s = ⟨(rtx (Y i + Z i)).toArray⟩ := ⟨_, rfl⟩
      rw [← hsy1] at cyw hsy
      rw [← hsz1] at czw hsz
      have hl : F.Lt (10 ^ 3) (Y i + Z i) := (F.plus_lt hsy.2 hsz.2).mono (by decide)
      have hres : qres (· + ·) (some (Y i)) (some (Z i)) = .tuple #[.string sw, .int .i64 0] := by
        show qgive (Y i + Z i) = _
        rw [hsw]; exact qgive_ok (k := 3) hl (by omega) (by omega)
      have HY := Lib.hid (And.intro hsy (And.intro hsz (And.intro hres hsw)))
      clear hsy hsz hres hsw hl hcy hcz hB1 hsy1 hsz1
      go_upto_region 9 with fail
      have dyw : wn.drew.cell? ⟨by_, oy + i, none⟩ = some (.string sy) := cyw
      have dzw : wn.drew.cell? ⟨bz, oz + i, none⟩ = some (.string sz) := czw
      go_region_held3 (fun w' => w'.cell? ⟨by_, oy + i, none⟩ = some (.string sy) ∧ w'.cell? ⟨bz, oz + i, none⟩ = some (.string sz))
        (first | exact ⟨c7, c8⟩ | exact ⟨dyw, dzw⟩ | exact ⟨cyw, czw⟩)
        (first
          | (go_at_call 40; go_split_ands; ((with_reducible refine (radd02_any (r := some (Y i)) (q := some (Z i)) sy sz HY.out.1.short HY.out.2.1.short HY.out.1.rd HY.out.2.1.rd).mono ?_); rw [HY.out.2.2.1]; rintro e w7 ⟨rfl, hb7⟩; have HB7 := Lib.hid hb7; have c7 := (hb7.cell (p := ⟨by_, oy + i, none⟩) hbyn).trans dyw; have c8 := (hb7.cell (p := ⟨bz, oz + i, none⟩) hbzn).trans dzw; clear hb7)))
      have hsz7 : wn.heap.size ≤ w7.heap.size := HB7.out.size
      have ho7 : w7.ownsRow w4.heap.size 25 1 v' (i + 1) (tos.map Value.string ++ [.string ⟨#[49]⟩]) := own_below (w := wn.drew) HO.out.1.drew HB7.out
      have hs7 : w7.ownsRow w4.heap.size 25 1 sb i (tbs.map Value.string) := own_below (w := wn.drew) HO.out.2.1.drew HB7.out
      have hb47 : Below w4.heap.size w4 w7 := HO.out.2.2.2.drew.trans (HB7.out.mono HO.out.2.2.2.size)
      have H7 := Lib.hid (And.intro ho7 (And.intro hs7 hb47))
      have hsz4 : w4.heap.size ≤ w7.heap.size := hb47.size
      clear ho7 hs7 hb47 c7 c8 dyw dzw cyw czw
      go_wp2_with (at_builtin; refine wpList_append_own_at _ rfl (.tmp 60) (.tmp 62) 44 rfl w4.heap.size 25 ei (.string ⟨#[]⟩) 1 16 Tryz.underlying44 HI.out.1 HI.out.2.1 HI.out.2.2.1 HI.out.2.2.2 rfl (by decide) sb i (tbs.map Value.string) rfl (H7.out.2.1.alloc _) ⟨w7.heap.size, 0, none⟩ 1 1 [.string sw] rfl rfl (by intro j u hj; match j, hj with | 0, hj => simp at hj; subst hj; simp [Addr.add]) (by intro u hu; simp at hu; subst hu; rfl) (by unfold maxLen; omega) (by omega) (by simp; omega) ?_; intro v2 w8 hown hgrow hnil hblk; have HG2 := Lib.hid (And.intro hown (And.intro hgrow hblk)); clear hown hgrow hnil hblk)
      have hrow2 : ∀ k, sb.ownBlock = some k → w4.heap.size ≤ k := fun k hk => (H7.out.2.1.lt k hk).1
      have hvl : ∀ k, v'.ownBlock = some k → k < w7.heap.size := fun k hk => (H7.out.1.lt k hk).2
      have hne2 : v'.ownBlock = none ∨ v'.ownBlock ≠ sb.ownBlock := by
        cases hs : v'.ownBlock with
        | none => exact .inl rfl
        | some k => exact .inr fun e => HO.out.2.2.1 k hs e.symm
      have hap2 : ∀ k, v'.ownBlock = some k → v2.ownBlock ≠ some k := fun k hk he => by
        rcases HG2.out.2.2 with h1 | h1
        · rw [h1] at he; exact HO.out.2.2.1 k hk he
        · rw [h1] at he
          have h2 := hvl k hk
          have h3 : k = (w7.alloc (.cells #[.string sw] 25)).heap.size := (Option.some.inj he).symm
          simp at h3
          omega
      have hB8 : Below w4.heap.size w4 w8 := ((H7.out.2.2.alloc hsz4 (.cells #[.string sw] 25)).grown HG2.out.2.1 (by simp; omega) hrow2)
      have ho8 := (H7.out.1.alloc (.cells #[.string sw] 25)).kept HG2.out.2.1 hne2
      have HF := Lib.hid (And.intro ho8 (And.intro hap2 hB8))
      clear hrow2 hvl hne2 hap2 hB8 ho8
      have hlo := HR.out.1.2.2.1
      have hlb := HR.out.1.2.2.2.1
      have HLN := Lib.hid (And.intro hlo hlb)
      clear hlo hlb
      go_wp2
      go_roundg (m - (i + 1))
      case measure => omega
      case rel =>
        refine ⟨_, _, i + 1, tos ++ [⟨#[49]⟩], tbs ++ [sw], by omega, rfl, rfl, by go_num, ⟨by rw [List.map_append]; exact HF.out.1, by rw [List.map_append]; exact HG2.out.1, by rw [List.length_append, HLN.out.1]; rfl, by rw [List.length_append, HLN.out.2]; rfl, HF.out.2.1⟩, fun j hj => ?_, fun j hj => ?_, HF.out.2.2⟩
        · rw [txtL_append, HLN.out.1]
          by_cases h1 : j < i
          · rw [if_pos h1]; exact HR.out.2.1 j h1
          · rw [if_neg h1, if_pos (by omega)]
        · rw [txtL_append, HLN.out.2]
          by_cases h1 : j < i
          · rw [if_pos h1]; exact HR.out.2.2.1 j h1
          · have e : j = i := by omega
            rw [if_neg h1, if_pos e, e]; exact HY.out.2.2.2
    · have ein : m = i := by omega
      subst ein
      obtain ⟨Ao, co, rfl, hLo⟩ := own_form HR.out.1.1 HR.out.1.2.2.1
      obtain ⟨Ab, cb, rfl, hLb⟩ := own_form HR.out.1.2.1 HR.out.1.2.2.2.1
      have sX : Small3 m (txtL tx) X := small3_of (k := 1) (by omega) (by omega) HX.out.1
      have sY : Small3 m (txtL ty) Y := small3_of (k := 1) (by omega) (by omega) HX.out.2.1
      have sZ : Small3 m (txtL tz) Z := small3_of (k := 1) (by omega) (by omega) HX.out.2.2
      have sO : Small3 m (txtL tos) (fun _ => 1) := small3_of (k := 1) (by omega) (by omega) fun j hj => by
        rw [HR.out.2.1 j hj]
        exact ⟨⟨by decide +kernel, by decide +kernel, by decide +kernel⟩, by decide +kernel, by decide +kernel⟩
      have sB : Small3 m (txtL tbs) (fun j => Y j + Z j) := small3_of (k := 3) (by omega) (by omega) fun j hj => by
        rw [HR.out.2.2.1 j hj]
        have hl : F.Lt (10 ^ 3) (Y j + Z j) := (F.plus_lt (HX.out.2.1 j hj).2 (HX.out.2.2 j hj).2).mono (by decide)
        exact ⟨hl.text' (by omega) (by omega), hl⟩
      have HS := Lib.hid (And.intro sX (And.intro sY (And.intro sZ (And.intro sO sB))))
      have hB := HR.out.2.2.2
      have HW := Lib.hid (And.intro (HQ.out.op hB) (And.intro (HL.out.1.below hB) (And.intro (HL.out.2.1.below hB) (And.intro (HL.out.2.2.below hB) (And.intro hLo hLb)))))
      clear sX sY sZ sO sB hB hLo hLb
      obtain ⟨pa, hpa⟩ : ∃ p : ByteArray, p = ⟨(rtx (dotv (fun _ => 1) X m)).toArray⟩ := ⟨_, rfl⟩
      obtain ⟨pc, hpc⟩ : ∃ p : ByteArray, p = ⟨(rtx (dotv X Y m + dotv Z X m)).toArray⟩ := ⟨_, rfl⟩
      obtain ⟨pd, hpd⟩ : ∃ p : ByteArray, p = ⟨(rtx (dotv X Y m)).toArray⟩ := ⟨_, rfl⟩
      obtain ⟨pu, hpu⟩ : ∃ p : ByteArray, p = ⟨(rtx (dotv Z X m)).toArray⟩ := ⟨_, rfl⟩
      have HE := Lib.hid (And.intro hpa (And.intro hpc (And.intro hpd hpu)))
      clear hpa hpc hpd hpu
      go_wp2_with fail
      refine (sum_ok HW.out.1.env hm6 HW.out.2.1 HS.out.1).mono ?_
      rw [add_is_dot, ← HE.out.1]
      rintro e v1 ⟨rfl, hl1, hb⟩
      have B1 := Lib.hid hb
      clear hb hl1
      go_wp2_with fail
      refine (dot_ok (HW.out.1.op B1.out).env hm6 (HW.out.2.2.2.2.1.below B1.out) (HW.out.2.1.below B1.out) HS.out.2.2.2.1 HS.out.1).mono ?_
      rw [← HE.out.1]
      rintro e v2 ⟨rfl, hl1, hb⟩
      have B2 := Lib.hid (B1.out.trans (hb.mono B1.out.size))
      clear hb hl1
      go_wp2_with fail
      refine (dot_ok (HW.out.1.op B2.out).env hm6 (HW.out.2.1.below B2.out) (HW.out.2.2.2.2.2.below B2.out) HS.out.1 HS.out.2.2.2.2).mono ?_
      rw [dot_linear, ← HE.out.2.1]
      rintro e v3 ⟨rfl, hl3, hb⟩
      have B3 := Lib.hid (And.intro (B2.out.trans (hb.mono B2.out.size)) hl3)
      clear hb hl3
      go_wp2_with fail
      refine (dot_ok (HW.out.1.op B3.out.1).env hm6 (HW.out.2.1.below B3.out.1) (HW.out.2.2.1.below B3.out.1) HS.out.1 HS.out.2.1).mono ?_
      rw [← HE.out.2.2.1]
      rintro e v4 ⟨rfl, hl4, hb⟩
      have B4 := Lib.hid (And.intro (B3.out.1.trans (hb.mono B3.out.1.size)) hl4)
      clear hb hl4
      go_wp2_with fail
      refine (dot_ok (HW.out.1.op B4.out.1).env hm6 (HW.out.2.2.2.1.below B4.out.1) (HW.out.2.1.below B4.out.1) HS.out.2.2.1 HS.out.1).mono ?_
      rw [← HE.out.2.2.2]
      rintro e v5 ⟨rfl, hl5, hb⟩
      have B5 := Lib.hid (And.intro (B4.out.1.trans (hb.mono B4.out.1.size)) hl5)
      clear hb hl5
      have HN := Lib.hid (show QN pd (dotv X Y m) 49 ∧ QN pu (dotv Z X m) 49 ∧ QN pc (dotv X Y m + dotv Z X m) 49 from by
        rw [HE.out.2.1, HE.out.2.2.1, HE.out.2.2.2]
        exact ⟨⟨B4.out.2.text' (by omega) (by omega), B4.out.2⟩, ⟨B5.out.2.text' (by omega) (by omega), B5.out.2⟩, ⟨B3.out.2.text' (by omega) (by omega), B3.out.2⟩⟩)
      go_wp2_with fail
      refine ((HW.out.1.op B5.out.1).add HN.out.1 HN.out.2.1 (by omega)).mono ?_
      rintro e v6 ⟨pv, rfl, HV⟩
      obtain rfl : pv = pc := HV.out.1.eq HN.out.2.2 rfl
      go_wp2_with fail
      refine HV.out.2.sane.mono ?_
      rintro e v7 ⟨rfl, hb⟩
      go_wp2
      go_ret
      exact ⟨rfl, hb⟩
end Go.Proofs.YtfogkkanifnppaaGreatDoor
