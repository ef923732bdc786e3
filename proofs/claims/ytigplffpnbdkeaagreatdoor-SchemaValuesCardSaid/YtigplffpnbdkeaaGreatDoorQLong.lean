/- Give of a fraction; the source's fractions: Long. Texts of fractions with a bound, under a run of the laws: what the functions of package rational give. sane: the examples of the chapter. -/
import Derived.Test.YtigplffpnbdkeaaGreatDoorDFrac
import Derived.Test.YtigplffpnbdkeaaGreatDoorRatFG
import Derived.Test.YtigplffpnbdkeaaGreatDoorSrc
import Derived.Deep.RegionHeld3
namespace Go.Proofs.YtigplffpnbdkeaaGreatDoor
open Go Go.RowKit

theorem rtx_one {x : Rat} (h : x.den = 1) : rtx x = Lib.itoa x.num := by unfold rtx; rw [if_pos h]
theorem rtx_bar {x : Rat} (h : ¬ x.den = 1) : rtx x = Lib.itoa x.num ++ 47 :: Lib.itoa (x.den : Int) := by unfold rtx; rw [if_neg h]
theorem itoa_is_one {d : Nat} : Lib.itoa (d : Int) = [49] ↔ d = 1 := by
  rw [T.itoa_nonneg (by omega), Int.natAbs_natCast]; exact dec_one
set_option maxHeartbeats 4000000 in
set_option maxRecDepth 100000 in
theorem dgive_any {w : World} {a : Value} {x : Rat} {k : Nat} (ha : IsFrac w a x) (hx : F.Lt (D.B ^ k) x) (hk : k ≤ 20000) :
    Calls Tryz.prog 48 #[a] w fun e w' => e = .returned (qgive x) ∧ Below w.heap.size w w' := by
  obtain ⟨s, A, l, c, t, A', l', c', rfl⟩ := ha.shape
  have H := Lib.hid (And.intro ha hx)
  clear ha hx
  go_enter Tryz.func48, Tryz.ntmps48
  go_upto_region 0 with fail
  go_cut [1] from 8 (fun s1 wx => ∃ g1 : Nat, s1 = .pointer (some ⟨g1, 0, none⟩) ∧ DPs w [(g1, .rat x)] wx)
  case first =>
    go_wp2_with fail
    go_meet
    exact ⟨_, rfl, (DPs.start w).boxRat H.out.1 rfl⟩
  obtain ⟨g1, rfl, hP⟩ := hcut
  obtain ⟨s, A, l, c, t, A', l', c', c0, c1, c2, c3, hr⟩ := hP.rat 0 rfl
  have hg : g1 < wc.heap.size := hP.lt (p := (g1, .rat x)) (by simp)
  have HP := Lib.hid (And.intro hP (And.intro hr.parts.1 (And.intro hr.parts.2 hg)))
  clear hP hr hg
  have e1 : give x.num = .tuple #[.string ⟨(Lib.itoa x.num).toArray⟩, .int .i64 0] ∧ Lib.nDigits x.num.natAbs ≤ 400 ∨ give x.num = .tuple #[.string ⟨#[]⟩, .int .i64 3] ∧ ¬ Lib.nDigits x.num.natAbs ≤ 400 := by
    unfold give
    by_cases h : Lib.nDigits x.num.natAbs ≤ 400
    · exact .inl ⟨if_pos h, h⟩
    · exact .inr ⟨if_neg h, h⟩
  have e2 : give (x.den : Int) = .tuple #[.string ⟨(Lib.itoa (x.den : Int)).toArray⟩, .int .i64 0] ∧ Lib.nDigits x.den ≤ 400 ∨ give (x.den : Int) = .tuple #[.string ⟨#[]⟩, .int .i64 3] ∧ ¬ Lib.nDigits x.den ≤ 400 := by
    unfold give
    rw [Int.natAbs_natCast]
    by_cases h : Lib.nDigits x.den ≤ 400
    · exact .inl ⟨if_pos h, h⟩
    · exact .inr ⟨if_neg h, h⟩
  obtain ⟨sb, hsb⟩ : ∃ sb : ByteArray, sb = ⟨(Lib.itoa (x.den : Int)).toArray⟩ := ⟨_, rfl⟩
  obtain ⟨sa, hsa⟩ : ∃ sa : ByteArray, sa = ⟨(Lib.itoa x.num).toArray⟩ := ⟨_, rfl⟩
  rw [← hsa] at e1
  rw [← hsb] at e2
  have HS := Lib.hid (And.intro hsa hsb)
  clear hsa hsb
  rcases e1 with ⟨en, hn⟩ | ⟨en, hn⟩
  · rcases e2 with ⟨ed, hd⟩ | ⟨ed, hd⟩
    · by_cases ho : x.den = 1
      · have HO := Lib.hid ho
        have hs1 : (sb.toList == [49]) = true := by rw [Lib.toList_data, HS.out.2, toArr, beq_iff_eq]; exact itoa_is_one.2 ho
        clear ho
        have HN := Lib.hid (And.intro en hn)
        have HD := Lib.hid (And.intro ed hd)
        have hsz1 : sa.size ≤ 401 := by rw [HS.out.1]; show (Lib.itoa x.num).toArray.size ≤ 401; rw [List.size_toArray]; have := itoa_len x.num; omega
        have hsz2 : sb.size ≤ 401 := by rw [HS.out.2]; show (Lib.itoa (x.den : Int)).toArray.size ≤ 401; rw [List.size_toArray]; have := itoa_len (x.den : Int); rw [Int.natAbs_natCast] at this; omega
        clear en hn ed hd
        go_wp2_with fail
        refine (rgive_any HP.out.2.1 H.out.2.1 hk).mono ?_
        rw [HN.out.1]
        rintro e w1 ⟨rfl, hb⟩
        have H1 := Lib.hid (And.intro (HP.out.1.next hb) (HP.out.2.2.1.below hb (Nat.le_refl _)))
        have e2 := (hb.cell (p := ⟨g1, 2, none⟩) HP.out.2.2.2).trans c2
        have e3 := (hb.cell (p := ⟨g1, 3, none⟩) HP.out.2.2.2).trans c3
        clear hb c0 c1 c2 c3
        go_wp2_with fail
        refine (rgive_any H1.out.2 (by rw [Int.natAbs_natCast]; exact H.out.2.2) hk).mono ?_
        rw [HD.out.1]
        rintro e w2 ⟨rfl, hb⟩
        have H2 := Lib.hid (H1.out.1.next hb)
        clear hb e2 e3
        go_wp2
        go_ret2
        refine ⟨?_, H2.out.below⟩
        rw [show qgive x = .tuple #[.string ⟨(rtx x).toArray⟩, .int .i64 0] from if_pos ⟨HN.out.2, HD.out.2⟩]
        rw [rtx_one HO.out, ← HS.out.1]; rfl
      · have HO := Lib.hid ho
        have hs1 : (sb.toList == [49]) = false := by rw [Lib.toList_data, HS.out.2, toArr, beq_eq_false_iff_ne]; exact fun e => ho (itoa_is_one.1 e)
        clear ho
        have HN := Lib.hid (And.intro en hn)
        have HD := Lib.hid (And.intro ed hd)
        have hsz1 : sa.size ≤ 401 := by rw [HS.out.1]; show (Lib.itoa x.num).toArray.size ≤ 401; rw [List.size_toArray]; have := itoa_len x.num; omega
        have hsz2 : sb.size ≤ 401 := by rw [HS.out.2]; show (Lib.itoa (x.den : Int)).toArray.size ≤ 401; rw [List.size_toArray]; have := itoa_len (x.den : Int); rw [Int.natAbs_natCast] at this; omega
        clear en hn ed hd
        go_wp2_with fail
        refine (rgive_any HP.out.2.1 H.out.2.1 hk).mono ?_
        rw [HN.out.1]
        rintro e w1 ⟨rfl, hb⟩
        have H1 := Lib.hid (And.intro (HP.out.1.next hb) (HP.out.2.2.1.below hb (Nat.le_refl _)))
        have e2 := (hb.cell (p := ⟨g1, 2, none⟩) HP.out.2.2.2).trans c2
        have e3 := (hb.cell (p := ⟨g1, 3, none⟩) HP.out.2.2.2).trans c3
        clear hb c0 c1 c2 c3
        go_wp2_with fail
        refine (rgive_any H1.out.2 (by rw [Int.natAbs_natCast]; exact H.out.2.2) hk).mono ?_
        rw [HD.out.1]
        rintro e w2 ⟨rfl, hb⟩
        have H2 := Lib.hid (H1.out.1.next hb)
        clear hb e2 e3
        go_wp2
        go_ret2
        refine ⟨?_, H2.out.below⟩
        rw [show qgive x = .tuple #[.string ⟨(rtx x).toArray⟩, .int .i64 0] from if_pos ⟨HN.out.2, HD.out.2⟩]
        rw [show (⟨(rtx x).toArray⟩ : ByteArray) = sa ++ ⟨#[47]⟩ ++ sb by rw [rtx_bar HO.out, HS.out.1, HS.out.2]; apply ByteArray.ext; simp]; rfl
    · have HN := Lib.hid (And.intro en hn)
      have HD := Lib.hid (And.intro ed hd)
      clear en hn ed hd
      go_wp2_with fail
      refine (rgive_any HP.out.2.1 H.out.2.1 hk).mono ?_
      rw [HN.out.1]
      rintro e w1 ⟨rfl, hb⟩
      have H1 := Lib.hid (And.intro (HP.out.1.next hb) (HP.out.2.2.1.below hb (Nat.le_refl _)))
      have e2 := (hb.cell (p := ⟨g1, 2, none⟩) HP.out.2.2.2).trans c2
      have e3 := (hb.cell (p := ⟨g1, 3, none⟩) HP.out.2.2.2).trans c3
      clear hb c0 c1 c2 c3
      go_wp2_with fail
      refine (rgive_any H1.out.2 (by rw [Int.natAbs_natCast]; exact H.out.2.2) hk).mono ?_
      rw [HD.out.1]
      rintro e w2 ⟨rfl, hb⟩
      have H2 := Lib.hid (H1.out.1.next hb)
      clear hb e2 e3
      go_wp2
      go_ret2
      refine ⟨?_, H2.out.below⟩
      rw [show qgive x = .tuple #[.string ⟨#[]⟩, .int .i64 3] from if_neg (fun h => HD.out.2 h.2)]; rfl
  · rcases e2 with ⟨ed, hd⟩ | ⟨ed, hd⟩
    · have HN := Lib.hid (And.intro en hn)
      have HD := Lib.hid (And.intro ed hd)
      clear en hn ed hd
      go_wp2_with fail
      refine (rgive_any HP.out.2.1 H.out.2.1 hk).mono ?_
      rw [HN.out.1]
      rintro e w1 ⟨rfl, hb⟩
      have H1 := Lib.hid (And.intro (HP.out.1.next hb) (HP.out.2.2.1.below hb (Nat.le_refl _)))
      have e2 := (hb.cell (p := ⟨g1, 2, none⟩) HP.out.2.2.2).trans c2
      have e3 := (hb.cell (p := ⟨g1, 3, none⟩) HP.out.2.2.2).trans c3
      clear hb c0 c1 c2 c3
      go_wp2_with fail
      refine (rgive_any H1.out.2 (by rw [Int.natAbs_natCast]; exact H.out.2.2) hk).mono ?_
      rw [HD.out.1]
      rintro e w2 ⟨rfl, hb⟩
      have H2 := Lib.hid (H1.out.1.next hb)
      clear hb e2 e3
      go_wp2
      go_ret2
      refine ⟨?_, H2.out.below⟩
      rw [show qgive x = .tuple #[.string ⟨#[]⟩, .int .i64 3] from if_neg (fun h => HN.out.2 h.1)]; rfl
    · have HN := Lib.hid (And.intro en hn)
      have HD := Lib.hid (And.intro ed hd)
      clear en hn ed hd
      go_wp2_with fail
      refine (rgive_any HP.out.2.1 H.out.2.1 hk).mono ?_
      rw [HN.out.1]
      rintro e w1 ⟨rfl, hb⟩
      have H1 := Lib.hid (And.intro (HP.out.1.next hb) (HP.out.2.2.1.below hb (Nat.le_refl _)))
      have e2 := (hb.cell (p := ⟨g1, 2, none⟩) HP.out.2.2.2).trans c2
      have e3 := (hb.cell (p := ⟨g1, 3, none⟩) HP.out.2.2.2).trans c3
      clear hb c0 c1 c2 c3
      go_wp2_with fail
      refine (rgive_any H1.out.2 (by rw [Int.natAbs_natCast]; exact H.out.2.2) hk).mono ?_
      rw [HD.out.1]
      rintro e w2 ⟨rfl, hb⟩
      have H2 := Lib.hid (H1.out.1.next hb)
      clear hb e2 e3
      go_wp2
      go_ret2
      refine ⟨?_, H2.out.below⟩
      rw [show qgive x = .tuple #[.string ⟨#[]⟩, .int .i64 3] from if_neg (fun h => HN.out.2 h.1)]; rfl
/-- What Long keeps: the denominator in block g5, away from the source in block g. -/
structure LK (w0 : World) (g g5 : Nat) (s : Bool) (A : Option Addr) (l c : Nat) (z : Int) (w : World) : Prop where
  c0 : w.cell? ⟨g5, 0, none⟩ = some (.bool s)
  c1 : w.cell? ⟨g5, 1, none⟩ = some (.slice A l c)
  d : DBig w (.agg #[.bool s, .slice A l c]) z
  src : SrcIn w g
  gt : g < g5
  lt : g5 < w.heap.size
  fr : FreshV (g + 1) (.slice A l c)
  sg : Src1 g w0 w
  ge : w0.heap.size ≤ g5
section
variable {w0 w w' : World} {g g5 l c : Nat} {s : Bool} {A : Option Addr} {z : Int}
theorem DBig.far1 {v : Value} (h : DBig w (.agg #[.bool s, v]) z) (hf : FreshV (g + 1) v) (hs : Src1 g w w') : DBig w' (.agg #[.bool s, v]) z := by
  obtain ⟨A, l, c, e, ⟨hn, hl⟩, r⟩ := h
  have e2 : v = .slice A l c := by injection e with e; simp at e; exact e.2
  refine ⟨A, l, c, e, ⟨hn, fun h0 => ?_⟩, r⟩
  obtain ⟨b, off, rfl, hb, hc⟩ := hl h0
  have hne := hf _ _ _ e2 _ rfl
  refine ⟨b, off, rfl, Nat.lt_of_lt_of_le hb hs.1.size, fun i hi => ?_⟩
  rw [hs.cell hb (by simp at hne; omega)]
  exact hc i hi
theorem LK.big (h : LK w0 g g5 s A l c z w) (hs : SrcIn w' g) (hb : Src1 g w w') : LK w0 g g5 s A l c z w' := by
  have h1 := h.gt
  exact ⟨(hb.cell h.lt (by omega)).trans h.c0, (hb.cell h.lt (by omega)).trans h.c1, h.d.far1 h.fr hb, hs, h.gt, Nat.lt_of_lt_of_le h.lt hb.1.size, h.fr, h.sg.trans hb, h.ge⟩
theorem LK.op (h : LK w0 g g5 s A l c z w) (hb : Below w.heap.size w w') : LK w0 g g5 s A l c z w' := by
  have h1 := h.gt
  have h2 := h.lt
  exact ⟨(hb.cell (p := ⟨g5, 0, none⟩) h.lt).trans h.c0, (hb.cell (p := ⟨g5, 1, none⟩) h.lt).trans h.c1, h.d.below hb (Nat.le_refl _), h.src.below hb, h.gt, Nat.lt_of_lt_of_le h.lt hb.size, h.fr, h.sg.trans (Src1.below hb (by omega)), h.ge⟩
theorem LK.drew (h : LK w0 g g5 s A l c z w) : LK w0 g g5 s A l c z w.drew := ⟨h.c0, h.c1, h.d.below ((Drawn.refl w).drewN 1 |>.below _) (Nat.le_refl _), h.src.below ((Drawn.refl w).drewN 1 |>.below _), h.gt, h.lt, h.fr, h.sg.trans (Src1.drawn ((Drawn.refl w).drewN 1)), h.ge⟩
end
theorem SrcIn.belowB {w w' : World} {g B : Nat} (h : SrcIn w g) (hb : Below B w w') (hg : g < B) : SrcIn w' g := by
  obtain ⟨A, n, c, a, hh, h1, h2, h3⟩ := h
  refine ⟨A, n, c, a, (hb.block g hg).trans hh, h1, h2, fun h0 => ?_⟩
  obtain ⟨b, off, e, hbl, hc⟩ := h3 h0
  refine ⟨b, off, e, hbl, fun i hi => ?_⟩
  obtain ⟨z, hz, hr⟩ := hc i hi
  exact ⟨z, (hb.cell (Nat.lt_trans hbl hg)).trans hz, hr⟩
theorem LK.setd {w0 w : World} {g g5 l c l2 k2 : Nat} {s : Bool} {A A2 : Option Addr} {z y : Int} {b : Bool} (h : LK w0 g g5 s A l c z w) (hblk : w.heap[g5]? = some (.cells #[.bool s, .slice A l c] 85 (0, 0))) (hB : DBig w (.agg #[.bool b, .slice A2 l2 k2]) y) (hf : FreshV (g + 1) (.slice A2 l2 k2)) :
    LK w0 g g5 b A2 l2 k2 y (stBig w g5 b A2 l2 k2) := by
  obtain ⟨k1, k2', k3⟩ := stBig_keep hblk b A2 l2 k2
  have hbb : Below g5 w (stBig w g5 b A2 l2 k2) := ((Below.refl g5 w).setCell (p := ⟨g5, 0, none⟩) (Nat.le_refl _) _).setCell (p := ⟨g5, 1, none⟩) (Nat.le_refl _) _
  refine ⟨by simp [World.cell?, k2'], by simp [World.cell?, k2'], k1 _ _ hB, h.src.belowB hbb h.gt, h.gt, lt_of_block k2', hf, ⟨h.sg.1.trans (hbb.mono (Nat.le_of_lt h.gt)), fun k hk hne => (k3 k (by have := h.ge; omega)).trans (h.sg.2 k hk hne)⟩, h.ge⟩
theorem F.Lt.text' {k : Nat} {x : Rat} (h : F.Lt (10 ^ k) x) (hk : 1 ≤ k) (hk4 : k ≤ 400) : RatIs (⟨(rtx x).toArray⟩ : ByteArray).data.toList x := by rw [toArr]; exact h.text hk hk4
theorem qgive_ok {k : Nat} {x : Rat} (h : F.Lt (10 ^ k) x) (hk : 1 ≤ k) (hk4 : k ≤ 100) : qgive x = .tuple #[.string ⟨(rtx x).toArray⟩, .int .i64 0] := if_pos (h.digits hk (by omega))
theorem ten_D {z : Int} {d : Nat} (h : Lib.nDigits z.natAbs ≤ max d 1) (hd : d ≤ 100) : z.natAbs < D.B ^ 12 ∧ z.natAbs < 10 ^ max d 1 ∧ Lib.nDigits z.natAbs ≤ 400 := by
  have h1 := Lib.lt_pow_nDigits z.natAbs
  refine ⟨lt_dpow _ 12 (by omega), Nat.lt_of_lt_of_le h1 (Nat.pow_le_pow_right (by decide) h), by omega⟩
end Go.Proofs.YtigplffpnbdkeaaGreatDoor
namespace Go.Proofs.YtigplffpnbdkeaaGreatDoor
open Go Go.RowKit

/-- t is the text of x, and both its numbers are below 10^k. -/
def QN (t : ByteArray) (x : Rat) (k : Nat) : Prop := RatIs t.data.toList x ∧ F.Lt (10 ^ k) x
theorem QN.short {t : ByteArray} {x : Rat} {k : Nat} (h : QN t x k) : Short t := ratIs_size h.1
def QRun (w : World) (g : Nat) (w' : World) : Prop := Run w g w' ∧ Lx w
section
variable {w w1 w2 : World} {g : Nat} {s t : ByteArray} {x y : Rat} {k : Nat}
theorem QRun.env (h : QRun w g w1) : Env w1 := ⟨h.1.tab, h.2.below h.1.2.2.1⟩
theorem QRun.op (h : QRun w g w1) (hb : Below w1.heap.size w1 w2) : QRun w g w2 := ⟨h.1.op hb, h.2⟩
theorem QRun.below (h : QRun w g w1) : Below w.heap.size w w1 := h.1.2.2.1
theorem QRun.new {A : Option Addr} {n c : Nat} (ht : Tab w) (hm : Lx w) (h : Nums w A n) (hc : n ≤ c) (hcm : c ≤ maxLen) :
    Calls Tryz.prog 10 #[.slice A n c] w fun e w' => ∃ g, e = .returned (.pointer (some ⟨g, 0, none⟩)) ∧ Hid (QRun w g w') :=
  (Run.new ht h hc hcm).mono fun _ _ ⟨g, he, hr⟩ => ⟨g, he, Lib.hid ⟨hr.out, hm⟩⟩
end
theorem qtxt_half : RatIs (⟨#[49, 47, 50]⟩ : ByteArray).data.toList (Rat.divInt 1 2) := ⟨by decide +kernel, by decide +kernel, by decide +kernel⟩
theorem qtxt_third : RatIs (⟨#[49, 47, 51]⟩ : ByteArray).data.toList (Rat.divInt 1 3) := ⟨by decide +kernel, by decide +kernel, by decide +kernel⟩
theorem qtxt_m32 : RatIs (⟨#[45, 51, 47, 50]⟩ : ByteArray).data.toList (Rat.divInt (-3) 2) := ⟨by decide +kernel, by decide +kernel, by decide +kernel⟩
theorem qsane_make {w : World} (h : Env w) : Calls Tryz.prog 35 #[.string ⟨#[54]⟩, .string ⟨#[45, 52]⟩] w fun e w' => e = .returned (.tuple #[.string ⟨#[45, 51, 47, 50]⟩, .int .i64 0]) ∧ Below w.heap.size w w' := by
  have hc := qmake_any (w := w) (p := 6) (q := -4) ⟨#[54]⟩ ⟨#[45, 52]⟩ h txt_6.symm txt_m4.symm (nd_small (by decide)) (nd_small (by decide))
  rw [show qmake 6 (-4) = .tuple #[.string ⟨#[45, 51, 47, 50]⟩, .int .i64 0] from (if_neg (by decide)).trans ((if_pos (by decide +kernel)).trans (by rw [show rtx (Rat.divInt 6 (-4)) = [45, 51, 47, 50] by decide +kernel]))] at hc
  exact hc
theorem qsane_add {w : World} (h : Env w) : Calls Tryz.prog 36 #[.string ⟨#[49, 47, 50]⟩, .string ⟨#[49, 47, 51]⟩] w fun e w' => e = .returned (.tuple #[.string ⟨#[53, 47, 54]⟩, .int .i64 0]) ∧ Below w.heap.size w w' := by
  have hc := qadd_any (w := w) (r := some (Rat.divInt 1 2)) (q := some (Rat.divInt 1 3)) ⟨#[49, 47, 50]⟩ ⟨#[49, 47, 51]⟩ h (by unfold Short; decide) (by unfold Short; decide) qtxt_half qtxt_third
  rw [show qres (· + ·) (some (Rat.divInt 1 2)) (some (Rat.divInt 1 3)) = .tuple #[.string ⟨#[53, 47, 54]⟩, .int .i64 0] from (if_pos (by decide +kernel)).trans (by rw [show rtx (Rat.divInt 1 2 + Rat.divInt 1 3) = [53, 47, 54] by decide +kernel])] at hc
  exact hc
theorem qsane_floor {w : World} (h : Env w) : Calls Tryz.prog 37 #[.string ⟨#[45, 51, 47, 50]⟩] w fun e w' => e = .returned (.tuple #[.string ⟨#[45, 50]⟩, .int .i64 0]) ∧ Below w.heap.size w w' := by
  have hc := qfloor_any (w := w) (r := some (Rat.divInt (-3) 2)) ⟨#[45, 51, 47, 50]⟩ h (by unfold Short; decide) qtxt_m32
  rw [show qfloor (some (Rat.divInt (-3) 2)) = .tuple #[.string ⟨#[45, 50]⟩, .int .i64 0] by show (Value.tuple #[.string ⟨(Lib.itoa ((Rat.divInt (-3) 2).num / ((Rat.divInt (-3) 2).den : Int))).toArray⟩, .int .i64 0]) = _; rw [show Lib.itoa ((Rat.divInt (-3) 2).num / ((Rat.divInt (-3) 2).den : Int)) = [45, 50] by decide +kernel]] at hc
  exact hc
theorem qsane_valid {w : World} (h : Env w) : Calls Tryz.prog 38 #[.string ⟨#[50, 47, 52]⟩] w fun e w' => e = .returned (.bool false) ∧ Below w.heap.size w w' :=
  qvalid_any (r := none) ⟨#[50, 47, 52]⟩ h.2 (by unfold Short; decide) (.inr (.inr (.inr ⟨2, 4, by decide +kernel, by decide +kernel, by decide +kernel, by decide, by decide⟩)))
theorem qsane_whole {w : World} (h : Env w) : Calls Tryz.prog 39 #[.int .i64 (-3)] w fun e w' => e = .returned (.string ⟨#[45, 51]⟩) ∧ Below w.heap.size w w' := by
  have hc := qwhole_any (w := w) (-3) (by decide) (by decide) h.1
  rw [show Lib.itoa (-3) = [45, 51] by decide +kernel] at hc
  exact hc
set_option maxHeartbeats 1600000 in
set_option maxRecDepth 100000 in
theorem qsane_any {w : World} (h : Env w) : Calls Tryz.prog 9 #[] w fun e w' => e = .returned (.bool true) ∧ Below w.heap.size w w' := by
  have HT := Lib.hid h
  clear h
  go_enter Tryz.func9, Tryz.ntmps9
  go_wp2_with fail
  refine (qsane_make HT.out).mono ?_
  rintro e w1 ⟨rfl, hb1⟩
  have H1 := Lib.hid hb1
  clear hb1
  go_wp2_with fail
  refine (qsane_add (HT.out.below H1.out)).mono ?_
  rintro e w2 ⟨rfl, hb2⟩
  have H2 := Lib.hid (H1.out.trans (hb2.mono H1.out.size))
  clear hb2
  go_wp2_with fail
  refine (qsane_floor (HT.out.below H2.out)).mono ?_
  rintro e w3 ⟨rfl, hb3⟩
  have H3 := Lib.hid (H2.out.trans (hb3.mono H2.out.size))
  clear hb3
  go_wp2_with fail
  refine (qsane_valid (HT.out.below H3.out)).mono ?_
  rintro e w4 ⟨rfl, hb4⟩
  have H4 := Lib.hid (H3.out.trans (hb4.mono H3.out.size))
  clear hb4
  go_wp2_with fail
  refine (qsane_whole (HT.out.below H4.out)).mono ?_
  rintro e w5 ⟨rfl, hb5⟩
  have H5 := Lib.hid (H4.out.trans (hb5.mono H4.out.size))
  clear hb5
  go_wp2
  go_ret
  exact ⟨rfl, H5.out⟩
theorem QRun.sane {w w1 : World} {g : Nat} (h : QRun w g w1) : Calls Tryz.prog 9 #[] w1 fun e w' => e = .returned (.bool true) ∧ Below w.heap.size w w' :=
  (qsane_any h.env).mono fun _ _ ⟨he, hb⟩ => ⟨he, h.below.trans (hb.mono h.below.size)⟩
end Go.Proofs.YtigplffpnbdkeaaGreatDoor
