/- Den, Num, Sign, Whole, Negated of wide's fractions; part. What the operations inside Plus and Times of fractions give: sizes and equations. -/
import Derived.Test.YtjghgbfagjhdgaaGreatDoorPlz
import Derived.Test.YtjghgbfagjhdgaaGreatDoorIntG
import Derived.Test.YtjghgbfagjhdgaaGreatDoorNum
namespace Go.Proofs.YtjghgbfagjhdgaaGreatDoor
open Go Go.RowKit

set_option maxHeartbeats 800000 in
set_option maxRecDepth 100000 in
theorem den_any {w : World} {v : Value} {x : Rat} (h : IsRat w v x) :
    Calls Tryz.prog 106 #[v] w fun e w' => ∃ u, e = .returned u ∧ IsInt w' u (x.den : Int) ∧ Below w.heap.size w w' := by
  obtain ⟨s, A, l, c, t, A', l', c', rfl⟩ := h.shape
  have H := Lib.hid h
  clear h
  go_enter Tryz.func106, Tryz.ntmps106
  go_upto_region 0 with fail
  go_cut [1, 2] from 3 (fun s1 s2 wx => ∃ g1 g2 : Nat, s1 = .pointer (some ⟨g1, 0, none⟩) ∧ s2 = .pointer (some ⟨g2, 0, none⟩) ∧ Pls w [(g1, .rat x), (g2, .hole)] wx)
  case first =>
    go_wp2_with fail
    go_meet
    exact ⟨_, _, rfl, rfl, ((Pls.start w).boxRat H.out rfl).newHole (by simp)⟩
  case rest =>
    obtain ⟨g1, g2, rfl, rfl, hP⟩ := hcut
    obtain ⟨s, A, l, c, t, A', l', c', c0, c1, c2, c3, hr⟩ := hP.rat 0 rfl
    obtain ⟨d, hd, hx⟩ := hr.den
    have HP := Lib.hid (And.intro hP (And.intro hd hx))
    clear hP hd hx hr
    go_wp2_with fail
    refine (sign_any HP.out.2.1).mono ?_
    rintro e w1 ⟨rfl, hb⟩
    have HP1 := Lib.hid (HP.out.1.next hb)
    by_cases h0 : d = 0
    · have hs : sgn d = 0 := by rw [h0]; rfl
      rw [hs]
      have hx1 : x.den = 1 := by
        rcases HP.out.2.2 with h1 | ⟨h1, _⟩
        · have := x.den_pos; omega
        · rw [h1]; rfl
      have HX := Lib.hid hx1
      clear hx1 h0 hs hb
      go_wp2_with fail
      refine (make_any (z := 1) (by decide) (by decide)).mono ?_
      rintro e w2 ⟨v, rfl, hv, hb⟩
      obtain ⟨s2, A2, l2, k2, rfl⟩ := hv.form
      have hP2 := HP1.out.next hb
      obtain ⟨u0, u1, d0, d1, f0, f1⟩ := hP2.hole 1 rfl
      have HV := Lib.hid (And.intro hv hP2)
      clear hv hP2 hb
      go_wp2
      have hF := HV.out.2.stored 1 rfl HV.out.1
      rw [show (w2.setCell ⟨g2, 0, none⟩ (.int .i64 s2)).setCell ⟨g2, 1, none⟩ (.slice A2 l2 k2) = stInt w2 g2 s2 A2 l2 k2 from rfl]
      generalize stInt w2 g2 s2 A2 l2 k2 = W3 at *
      obtain ⟨z0, z1, z2, z3⟩ := hF
      exact bodyPost_ret (v := .agg #[.int .i64 s2, .slice A2 l2 k2]) (by simp [results, Tryz.results106, go_sem, z0, z1]) rfl ⟨_, rfl, by rw [HX.out]; exact z2, z3.below⟩
    · have hs : (sgn d == 0) = false := by
        unfold sgn
        rw [beq_eq_false_iff_ne]
        split <;> (try split) <;> omega
      have hx1 : d = (x.den : Int) := HP.out.2.2.resolve_right fun h => h0 h.2
      have HX := Lib.hid hx1
      obtain ⟨sg, hsg⟩ : ∃ sg, sg = sgn d := ⟨_, rfl⟩
      rw [← hsg] at hs ⊢
      clear hx1 h0 hsg
      have hlt : g1 < wc.heap.size := HP.out.1.lt (p := (g1, .rat x)) (by simp)
      have e2 := (hb.cell (p := ⟨g1, 2, none⟩) hlt).trans c2
      have e3 := (hb.cell (p := ⟨g1, 3, none⟩) hlt).trans c3
      have hd1 := HP.out.2.1.below hb (Nat.le_refl _)
      obtain ⟨u0, u1, d0, d1, f0, f1⟩ := HP1.out.hole 1 rfl
      have HV := Lib.hid (And.intro hd1 HP1.out)
      clear hb hd1 hlt c0 c1 c2 c3
      go_wp2
      have hF := HV.out.2.stored 1 rfl HV.out.1
      rw [show (w1.setCell ⟨g2, 0, none⟩ (.int .i64 t)).setCell ⟨g2, 1, none⟩ (.slice A' l' c') = stInt w1 g2 t A' l' c' from rfl]
      generalize stInt w1 g2 t A' l' c' = W3 at *
      obtain ⟨z0, z1, z2, z3⟩ := hF
      exact bodyPost_ret (v := .agg #[.int .i64 t, .slice A' l' c']) (by simp [results, Tryz.results106, go_sem, z0, z1]) rfl ⟨_, rfl, by rw [← HX.out]; exact z2, z3.below⟩

set_option maxHeartbeats 800000 in
set_option maxRecDepth 100000 in
theorem num_any {w : World} {v : Value} {x : Rat} (h : IsRat w v x) :
    Calls Tryz.prog 107 #[v] w fun e w' => ∃ u, e = .returned u ∧ IsInt w' u x.num ∧ Below w.heap.size w w' := by
  obtain ⟨s, A, l, c, t, A', l', c', rfl⟩ := h.shape
  have H := Lib.hid h
  clear h
  go_enter Tryz.func107, Tryz.ntmps107
  go_upto_region 0 with fail
  go_cut [1, 2] from 3 (fun s1 s2 wx => ∃ g1 g2 : Nat, s1 = .pointer (some ⟨g1, 0, none⟩) ∧ s2 = .pointer (some ⟨g2, 0, none⟩) ∧ Pls w [(g1, .rat x), (g2, .hole)] wx)
  case first =>
    go_wp2_with fail
    go_meet
    exact ⟨_, _, rfl, rfl, ((Pls.start w).boxRat H.out rfl).newHole (by simp)⟩
  case rest =>
    obtain ⟨g1, g2, rfl, rfl, hP⟩ := hcut
    obtain ⟨s, A, l, c, t, A', l', c', c0, c1, c2, c3, hr⟩ := hP.rat 0 rfl
    obtain ⟨u0, u1, d0, d1, f0, f1⟩ := hP.hole 1 rfl
    have HV := Lib.hid (And.intro hr.num hP)
    clear hr hP
    go_wp2
    have hF := HV.out.2.stored 1 rfl HV.out.1
    rw [show (wc.setCell ⟨g2, 0, none⟩ (.int .i64 s)).setCell ⟨g2, 1, none⟩ (.slice A l c) = stInt wc g2 s A l c from rfl]
    generalize stInt wc g2 s A l c = W3 at *
    obtain ⟨z0, z1, z2, z3⟩ := hF
    exact bodyPost_ret (v := .agg #[.int .i64 s, .slice A l c]) (by simp [results, Tryz.results107, go_sem, z0, z1]) rfl ⟨_, rfl, z2, z3.below⟩

set_option maxHeartbeats 800000 in
set_option maxRecDepth 100000 in
theorem qsign_any {w : World} {v : Value} {x : Rat} (h : IsRat w v x) :
    Calls Tryz.prog 124 #[v] w fun e w' => e = .returned (.int .i64 (sgn x.num)) ∧ Below w.heap.size w w' := by
  obtain ⟨s, A, l, c, t, A', l', c', rfl⟩ := h.shape
  have H := Lib.hid h
  clear h
  go_enter Tryz.func124, Tryz.ntmps124
  go_upto_region 0 with fail
  go_cut [1] from 3 (fun s1 wx => ∃ g1 : Nat, s1 = .pointer (some ⟨g1, 0, none⟩) ∧ Pls w [(g1, .rat x)] wx)
  case first =>
    go_wp2_with fail
    go_meet
    exact ⟨_, rfl, (Pls.start w).boxRat H.out rfl⟩
  case rest =>
    obtain ⟨g1, rfl, hP⟩ := hcut
    obtain ⟨s, A, l, c, t, A', l', c', c0, c1, c2, c3, hr⟩ := hP.rat 0 rfl
    have HV := Lib.hid (And.intro hr.num hP)
    clear hr hP
    go_wp2_with fail
    refine (sign_any HV.out.1).mono ?_
    rintro e w1 ⟨rfl, hb⟩
    have HB := Lib.hid (HV.out.2.next hb)
    clear hb
    go_wp2
    go_ret
    exact ⟨rfl, HB.out.below⟩

set_option maxHeartbeats 800000 in
set_option maxRecDepth 100000 in
theorem part_any {w : World} {a b : Value} {p q : Int} {k : Nat} (ha : IsInt w a p) (hb : IsInt w b q) (hq0 : q ≠ 0) (hp : p.natAbs < M.B ^ k) (hq : q.natAbs < M.B ^ k) (hk1 : 1 ≤ k) (hk : k ≤ 29000) :
    Calls Tryz.prog 122 #[a, b] w fun e w' => ∃ v, e = .returned v ∧ IsInt w' v (p / q) ∧ Below w.heap.size w w' := by
  obtain ⟨s, A, l, c, rfl⟩ := ha.form
  obtain ⟨t, A', l', c', rfl⟩ := hb.form
  have H := Lib.hid (And.intro ha (And.intro hb (And.intro hq0 (And.intro hp hq))))
  clear ha hb hq0 hp hq
  go_enter Tryz.func122, Tryz.ntmps122
  go_upto_region 0 with fail
  go_cut [2, 3, 4] from 5 (fun s2 s3 s4 wx => ∃ g2 g3 g4 : Nat, s2 = .pointer (some ⟨g2, 0, none⟩) ∧ s3 = .pointer (some ⟨g3, 0, none⟩) ∧ s4 = .pointer (some ⟨g4, 0, none⟩) ∧ Pls w [(g2, .int p), (g3, .int q), (g4, .hole)] wx)
  case first =>
    go_wp2_with fail
    go_meet
    exact ⟨_, _, _, rfl, rfl, rfl, (((Pls.start w).boxInt H.out.1 rfl).boxInt (H.out.2.1.below ((Below.refl _ _).alloc (Nat.le_refl _) _) (Nat.le_refl _)) (by simp)).newHole (by simp)⟩
  case rest =>
    obtain ⟨g2, g3, g4, rfl, rfl, rfl, hP⟩ := hcut
    obtain ⟨s, A, l, c, c0, c1, hi⟩ := hP.int 0 rfl
    obtain ⟨t, A', l', c', c2, c3, hj⟩ := hP.int 1 rfl
    have HV := Lib.hid (And.intro hi (And.intro hj hP))
    clear hi hj hP
    go_upto_region 1 with fail
    go_cut [5] from 7 (fun s5 wx => ∃ g5 : Nat, s5 = .pointer (some ⟨g5, 0, none⟩) ∧ ∃ z, Pls w [(g2, .int p), (g3, .int q), (g4, .hole), (g5, .int (p / q)), z] wx)
    case first =>
      go_wp2_with fail
      refine (divide_int HV.out.1 HV.out.2.1 H.out.2.2.1 H.out.2.2.2.1 H.out.2.2.2.2 hk1 hk).mono ?_
      rintro e w1 ⟨u, v, rfl, hu, hv, hb⟩
      obtain ⟨su, Au, lu, cu, rfl⟩ := hu.form
      obtain ⟨sv, Av, lv, cv, rfl⟩ := hv.form
      have HR := Lib.hid (And.intro (HV.out.2.2.next hb) (And.intro hu hv))
      clear hu hv hb
      go_wp2_with fail
      go_meet
      exact ⟨_, rfl, _, (HR.out.1.boxInt HR.out.2.1 rfl).boxInt (HR.out.2.2.below ((Below.refl _ _).alloc (Nat.le_refl _) _) (Nat.le_refl _)) rfl⟩
    case rest =>
      obtain ⟨g5, rfl, z, hP⟩ := hcut
      obtain ⟨s, A, l, c, c0, c1, hi⟩ := hP.int 3 rfl
      obtain ⟨u0, u1, d0, d1, f0, f1⟩ := hP.hole 2 rfl
      have HW := Lib.hid (And.intro hi hP)
      clear hi hP
      go_wp2
      have hF := HW.out.2.stored 2 rfl HW.out.1
      rw [show (wc.setCell ⟨g4, 0, none⟩ (.int .i64 s)).setCell ⟨g4, 1, none⟩ (.slice A l c) = stInt wc g4 s A l c from rfl]
      generalize stInt wc g4 s A l c = W3 at *
      obtain ⟨z0, z1, z2, z3⟩ := hF
      exact bodyPost_ret (v := .agg #[.int .i64 s, .slice A l c]) (by simp [results, Tryz.results122, go_sem, z0, z1]) rfl ⟨_, rfl, z2, z3.below⟩
end Go.Proofs.YtjghgbfagjhdgaaGreatDoor
namespace Go.Proofs.YtjghgbfagjhdgaaGreatDoor
open Go Go.RowKit

theorem B_double (k : Nat) : 2 * M.B ^ k ≤ M.B ^ (k + 1) := by
  rw [M.pow_succ']
  have := Nat.mul_le_mul_left (M.B ^ k) M.B_two
  omega
theorem B_sq (k : Nat) : M.B ^ k * M.B ^ k = M.B ^ (2 * k) := by rw [← Nat.pow_add]; congr 1; omega
/-- Fractions within B^k, their common divisor G, what is left of the denominators, the numerator N and its divisor T. -/
structure PH (x y : Rat) (k : Nat) (G RX RY N T : Int) : Prop where
  hx : F.Lt (M.B ^ k) x
  hy : F.Lt (M.B ^ k) y
  hk1 : 1 ≤ k
  hk : k ≤ 14000
  hG : G = (F.pg x y : Int)
  hRX : RX = ((x.den / F.pg x y : Nat) : Int)
  hRY : RY = ((y.den / F.pg x y : Nat) : Int)
  hN : N = F.pn x y
  hT : T = (F.pt x y : Int)
theorem PH.start {x y : Rat} {k : Nat} (hx : F.Lt (M.B ^ k) x) (hy : F.Lt (M.B ^ k) y) (hk1 : 1 ≤ k) (hk : k ≤ 14000) : ∃ G RX RY N T, PH x y k G RX RY N T := ⟨_, _, _, _, _, hx, hy, hk1, hk, rfl, rfl, rfl, rfl, rfl⟩
section
variable {w : World} {a b : Value} {x y : Rat} {k : Nat} {G RX RY N T : Int}
theorem PH.Gk (h : PH x y k G RX RY N T) : G.natAbs < M.B ^ k ∧ G ≠ 0 := by
  rw [h.hG, Int.natAbs_natCast]
  have h1 := F.pg_pos x y
  have h2 : F.pg x y ≤ x.den := Nat.gcd_le_left _ x.den_pos
  have := h.hx.2
  exact ⟨by omega, by omega⟩
theorem PH.RXk (h : PH x y k G RX RY N T) : RX.natAbs < M.B ^ k := by
  rw [h.hRX, Int.natAbs_natCast]; exact Nat.lt_of_le_of_lt (Nat.div_le_self _ _) h.hx.2
theorem PH.RYk (h : PH x y k G RX RY N T) : RY.natAbs < M.B ^ k := by
  rw [h.hRY, Int.natAbs_natCast]; exact Nat.lt_of_le_of_lt (Nat.div_le_self _ _) h.hy.2
theorem PH.common (h : PH x y k G RX RY N T) (hi : IsInt w a (x.den : Int)) (hj : IsInt w b (y.den : Int)) :
    Calls Tryz.prog 121 #[a, b] w fun e w' => ∃ v, e = .returned v ∧ IsInt w' v G ∧ Below w.heap.size w w' := by
  rw [h.hG]
  exact gcd_int hi hj (by rw [Int.natAbs_natCast]; exact h.hx.2) (by rw [Int.natAbs_natCast]; exact h.hy.2) h.hk1 (by have := h.hk; omega)
theorem PH.restx (h : PH x y k G RX RY N T) (hi : IsInt w a (x.den : Int)) (hj : IsInt w b G) :
    Calls Tryz.prog 122 #[a, b] w fun e w' => ∃ v, e = .returned v ∧ IsInt w' v RX ∧ Below w.heap.size w w' := by
  have e : RX = (x.den : Int) / G := by rw [h.hRX, h.hG, Int.natCast_ediv]
  rw [e]
  exact part_any hi hj h.Gk.2 (by rw [Int.natAbs_natCast]; exact h.hx.2) h.Gk.1 h.hk1 (by have := h.hk; omega)
theorem PH.resty (h : PH x y k G RX RY N T) (hi : IsInt w a (y.den : Int)) (hj : IsInt w b G) :
    Calls Tryz.prog 122 #[a, b] w fun e w' => ∃ v, e = .returned v ∧ IsInt w' v RY ∧ Below w.heap.size w w' := by
  have e : RY = (y.den : Int) / G := by rw [h.hRY, h.hG, Int.natCast_ediv]
  rw [e]
  exact part_any hi hj h.Gk.2 (by rw [Int.natAbs_natCast]; exact h.hy.2) h.Gk.1 h.hk1 (by have := h.hk; omega)
theorem PH.mulx (h : PH x y k G RX RY N T) (hi : IsInt w a x.num) (hj : IsInt w b RY) :
    Calls Tryz.prog 49 #[a, b] w fun e w' => ∃ v, e = .returned v ∧ IsInt w' v (x.num * RY) ∧ Below w.heap.size w w' :=
  times_int hi hj h.hx.1 h.RYk (by have := h.hk; omega)
theorem PH.muly (h : PH x y k G RX RY N T) (hi : IsInt w a y.num) (hj : IsInt w b RX) :
    Calls Tryz.prog 49 #[a, b] w fun e w' => ∃ v, e = .returned v ∧ IsInt w' v (y.num * RX) ∧ Below w.heap.size w w' :=
  times_int hi hj h.hy.1 h.RXk (by have := h.hk; omega)
theorem mul_B {p q : Int} (hp : p.natAbs < M.B ^ k) (hq : q.natAbs < M.B ^ k) : (p * q).natAbs < M.B ^ (2 * k) := by
  rw [Int.natAbs_mul, ← B_sq]; exact Nat.mul_lt_mul'' hp hq
theorem PH.sum (h : PH x y k G RX RY N T) (hi : IsInt w a (x.num * RY)) (hj : IsInt w b (y.num * RX)) :
    Calls Tryz.prog 169 #[a, b] w fun e w' => ∃ v, e = .returned v ∧ IsInt w' v N ∧ Below w.heap.size w w' := by
  have e : N = x.num * RY + y.num * RX := by rw [h.hN, h.hRX, h.hRY]; rfl
  rw [e]
  exact plus_int hi hj (mul_B h.hx.1 h.RYk) (mul_B h.hy.1 h.RXk) (by have := h.hk; omega)
theorem PH.Nk (h : PH x y k G RX RY N T) : N.natAbs < M.B ^ (2 * k + 1) := by
  rw [h.hN]
  have h1 := F.pn_lt h.hx h.hy
  rw [B_sq] at h1
  exact Nat.lt_of_lt_of_le h1 (B_double _)
theorem PH.Tk (h : PH x y k G RX RY N T) : T.natAbs < M.B ^ k ∧ T ≠ 0 := by
  rw [h.hT, Int.natAbs_natCast]
  have h1 := F.pt_pos x y
  have h2 : F.pt x y ≤ y.den := Nat.le_of_dvd y.den_pos (F.pt_dvd x y)
  have := h.hy.2
  exact ⟨by omega, by omega⟩
theorem PH.tee (h : PH x y k G RX RY N T) (hi : IsInt w a N) (hj : IsInt w b G) :
    Calls Tryz.prog 121 #[a, b] w fun e w' => ∃ v, e = .returned v ∧ IsInt w' v T ∧ Below w.heap.size w w' := by
  have e : T = ((Nat.gcd N.natAbs G.natAbs : Nat) : Int) := by rw [h.hT, h.hN, h.hG, Int.natAbs_natCast]; rfl
  rw [e]
  exact gcd_int hi hj h.Nk (Nat.lt_of_lt_of_le h.Gk.1 (M.pow_mono (by omega))) (by omega) (by have := h.hk; omega)
theorem PH.num (h : PH x y k G RX RY N T) (hi : IsInt w a N) (hj : IsInt w b T) :
    Calls Tryz.prog 122 #[a, b] w fun e w' => ∃ v, e = .returned v ∧ IsInt w' v (x + y).num ∧ Below w.heap.size w w' := by
  have e : (x + y).num = N / T := by rw [F.plus_num, h.hN, h.hT]
  rw [e]
  exact part_any hi hj h.Tk.2 h.Nk (Nat.lt_of_lt_of_le h.Tk.1 (M.pow_mono (by omega))) (by omega) (by have := h.hk; omega)
theorem PH.part_y (h : PH x y k G RX RY N T) (hi : IsInt w a (y.den : Int)) (hj : IsInt w b T) :
    Calls Tryz.prog 122 #[a, b] w fun e w' => ∃ v, e = .returned v ∧ IsInt w' v ((y.den / F.pt x y : Nat) : Int) ∧ Below w.heap.size w w' := by
  have e : ((y.den / F.pt x y : Nat) : Int) = (y.den : Int) / T := by rw [h.hT, Int.natCast_ediv]
  rw [e]
  exact part_any hi hj h.Tk.2 (by rw [Int.natAbs_natCast]; exact h.hy.2) h.Tk.1 h.hk1 (by have := h.hk; omega)
theorem PH.den (h : PH x y k G RX RY N T) (hi : IsInt w a RX) (hj : IsInt w b ((y.den / F.pt x y : Nat) : Int)) :
    Calls Tryz.prog 49 #[a, b] w fun e w' => ∃ v, e = .returned v ∧ IsInt w' v ((x + y).den : Int) ∧ Below w.heap.size w w' := by
  have e : ((x + y).den : Int) = RX * ((y.den / F.pt x y : Nat) : Int) := by rw [F.plus_den, h.hRX, Int.natCast_mul]
  rw [e]
  exact times_int hi hj h.RXk (by rw [Int.natAbs_natCast]; exact Nat.lt_of_le_of_lt (Nat.div_le_self _ _) h.hy.2) (by have := h.hk; omega)
end
/-- Fractions within B^k and their cross divisors. -/
structure TH (x y : Rat) (k : Nat) (T1 T2 : Int) : Prop where
  hx : F.Lt (M.B ^ k) x
  hy : F.Lt (M.B ^ k) y
  hk1 : 1 ≤ k
  hk : k ≤ 14000
  h1 : T1 = (F.t1 x y : Int)
  h2 : T2 = (F.t2 x y : Int)
theorem TH.start {x y : Rat} {k : Nat} (hx : F.Lt (M.B ^ k) x) (hy : F.Lt (M.B ^ k) y) (hk1 : 1 ≤ k) (hk : k ≤ 14000) : ∃ T1 T2, TH x y k T1 T2 := ⟨_, _, hx, hy, hk1, hk, rfl, rfl⟩
section
variable {w : World} {a b : Value} {x y : Rat} {k : Nat} {T1 T2 : Int}
theorem TH.gcd1 (h : TH x y k T1 T2) (hi : IsInt w a x.num) (hj : IsInt w b (y.den : Int)) :
    Calls Tryz.prog 121 #[a, b] w fun e w' => ∃ v, e = .returned v ∧ IsInt w' v T1 ∧ Below w.heap.size w w' := by
  rw [h.h1]
  exact gcd_int hi hj h.hx.1 (by rw [Int.natAbs_natCast]; exact h.hy.2) h.hk1 (by have := h.hk; omega)
theorem TH.gcd2 (h : TH x y k T1 T2) (hi : IsInt w a y.num) (hj : IsInt w b (x.den : Int)) :
    Calls Tryz.prog 121 #[a, b] w fun e w' => ∃ v, e = .returned v ∧ IsInt w' v T2 ∧ Below w.heap.size w w' := by
  rw [h.h2]
  exact gcd_int hi hj h.hy.1 (by rw [Int.natAbs_natCast]; exact h.hx.2) h.hk1 (by have := h.hk; omega)
theorem TH.T1k (h : TH x y k T1 T2) : T1.natAbs < M.B ^ k ∧ T1 ≠ 0 := by
  rw [h.h1, Int.natAbs_natCast]
  have h2 : F.t1 x y ≤ y.den := Nat.gcd_le_right _ y.den_pos
  have h3 : 0 < F.t1 x y := Nat.gcd_pos_of_pos_right _ y.den_pos
  have := h.hy.2
  exact ⟨by omega, by omega⟩
theorem TH.T2k (h : TH x y k T1 T2) : T2.natAbs < M.B ^ k ∧ T2 ≠ 0 := by
  rw [h.h2, Int.natAbs_natCast]
  have h2 : F.t2 x y ≤ x.den := Nat.gcd_le_right _ x.den_pos
  have h3 : 0 < F.t2 x y := Nat.gcd_pos_of_pos_right _ x.den_pos
  have := h.hx.2
  exact ⟨by omega, by omega⟩
theorem TH.pnx (h : TH x y k T1 T2) (hi : IsInt w a x.num) (hj : IsInt w b T1) :
    Calls Tryz.prog 122 #[a, b] w fun e w' => ∃ v, e = .returned v ∧ IsInt w' v (x.num / T1) ∧ Below w.heap.size w w' :=
  part_any hi hj h.T1k.2 h.hx.1 h.T1k.1 h.hk1 (by have := h.hk; omega)
theorem TH.pny (h : TH x y k T1 T2) (hi : IsInt w a y.num) (hj : IsInt w b T2) :
    Calls Tryz.prog 122 #[a, b] w fun e w' => ∃ v, e = .returned v ∧ IsInt w' v (y.num / T2) ∧ Below w.heap.size w w' :=
  part_any hi hj h.T2k.2 h.hy.1 h.T2k.1 h.hk1 (by have := h.hk; omega)
theorem TH.pdx (h : TH x y k T1 T2) (hi : IsInt w a (x.den : Int)) (hj : IsInt w b T2) :
    Calls Tryz.prog 122 #[a, b] w fun e w' => ∃ v, e = .returned v ∧ IsInt w' v ((x.den : Int) / T2) ∧ Below w.heap.size w w' :=
  part_any hi hj h.T2k.2 (by rw [Int.natAbs_natCast]; exact h.hx.2) h.T2k.1 h.hk1 (by have := h.hk; omega)
theorem TH.pdy (h : TH x y k T1 T2) (hi : IsInt w a (y.den : Int)) (hj : IsInt w b T1) :
    Calls Tryz.prog 122 #[a, b] w fun e w' => ∃ v, e = .returned v ∧ IsInt w' v ((y.den : Int) / T1) ∧ Below w.heap.size w w' :=
  part_any hi hj h.T1k.2 (by rw [Int.natAbs_natCast]; exact h.hy.2) h.T1k.1 h.hk1 (by have := h.hk; omega)
theorem TH.num (h : TH x y k T1 T2) (hi : IsInt w a (x.num / T1)) (hj : IsInt w b (y.num / T2)) :
    Calls Tryz.prog 49 #[a, b] w fun e w' => ∃ v, e = .returned v ∧ IsInt w' v (x * y).num ∧ Below w.heap.size w w' := by
  have e : (x * y).num = x.num / T1 * (y.num / T2) := by rw [F.times_num, h.h1, h.h2]
  rw [e]
  exact times_int hi hj (Nat.lt_of_le_of_lt (Int.natAbs_ediv_le_natAbs _ _) h.hx.1) (Nat.lt_of_le_of_lt (Int.natAbs_ediv_le_natAbs _ _) h.hy.1) (by have := h.hk; omega)
theorem TH.den (h : TH x y k T1 T2) (hi : IsInt w a ((x.den : Int) / T2)) (hj : IsInt w b ((y.den : Int) / T1)) :
    Calls Tryz.prog 49 #[a, b] w fun e w' => ∃ v, e = .returned v ∧ IsInt w' v ((x * y).den : Int) ∧ Below w.heap.size w w' := by
  have e : ((x * y).den : Int) = (x.den : Int) / T2 * ((y.den : Int) / T1) := by rw [F.times_den, h.h1, h.h2, Int.natCast_mul, Int.natCast_ediv, Int.natCast_ediv]
  rw [e]
  exact times_int hi hj (Nat.lt_of_le_of_lt (Int.natAbs_ediv_le_natAbs _ _) (by rw [Int.natAbs_natCast]; exact h.hx.2)) (Nat.lt_of_le_of_lt (Int.natAbs_ediv_le_natAbs _ _) (by rw [Int.natAbs_natCast]; exact h.hy.2)) (by have := h.hk; omega)
end
theorem gcd_G {w : World} {a b : Value} {p q G : Int} {k : Nat} (hG : G = ((Nat.gcd p.natAbs q.natAbs : Nat) : Int)) (hi : IsInt w a p) (hj : IsInt w b q) (hp : p.natAbs < M.B ^ k) (hq : q.natAbs < M.B ^ k) (hk1 : 1 ≤ k) (hk : k ≤ 29000) :
    Calls Tryz.prog 121 #[a, b] w fun e w' => ∃ v, e = .returned v ∧ IsInt w' v G ∧ Below w.heap.size w w' := by
  rw [hG]; exact gcd_int hi hj hp hq hk1 hk
end Go.Proofs.YtjghgbfagjhdgaaGreatDoor
