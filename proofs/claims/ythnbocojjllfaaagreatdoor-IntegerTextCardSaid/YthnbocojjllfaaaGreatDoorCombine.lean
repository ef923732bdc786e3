/- combine: a multiple of one number less a multiple of another. -/
import Derived.Test.YthnbocojjllfaaaGreatDoorSub
import Derived.Test.YthnbocojjllfaaaGreatDoorLehmer
namespace Go.Proofs.YthnbocojjllfaaaGreatDoor
open Go Go.RowKit

set_option maxHeartbeats 1600000 in
set_option maxRecDepth 100000 in
theorem combine_nat {w : World} {A A' : Option Addr} {l l' x y a b u : Nat} (c c' : Nat) (hx : Limbs w A l x) (hy : Limbs w A' l' y) (hl : l ≤ 60000) (hl' : l' ≤ 60000) (ha : a ≤ 4294967295) (hb : b ≤ 4294967295)
    (hu : (u : Int) = a * x - b * y) (huL : u < M.B ^ (max l l')) :
    Calls Tryz.prog 214 #[.slice A l c, .int .u64 (a : Int), .slice A' l' c', .int .u64 (b : Int)] w fun e w' => ∃ v, e = .returned v ∧ IsNat w' v u ∧ Below w.heap.size w w' := by
  have hmk := make_nat (max l l') (by omega)
  rw [show ((max l l' : Nat) : Int) = max (l : Int) l' by omega] at hmk
  have HU := Lib.hid hu
  clear hu
  go_enter Tryz.func214, Tryz.ntmps214
  go_wp2_with fail
  have hr0 := Row.new w (max l l')
  have hb0 : Below w.heap.size w (w.alloc (.cells (madeCells #[Value.int .u32 0] (max l l')) 160)) := (Below.refl _ _).alloc (Nat.le_refl _) _
  have hlL : l ≤ max l l' := Nat.le_max_left _ _
  have hlL' : l' ≤ max l l' := Nat.le_max_right _ _
  have hL : max l l' ≤ 60000 := by omega
  clear hmk
  generalize w.alloc (.cells (madeCells #[Value.int .u32 0] (max l l')) 160) = w0 at *
  generalize max l l' = L at *
  have H0 := Lib.hid (And.intro hr0 (And.intro hb0 huL))
  have HX := Lib.hid hx
  have HY := Lib.hid hy
  clear hr0 hb0 hx hy huL
  go_loopw [10, 11, 12, 23] (fun pv mv bv iv wr => ∃ i pc mc bo R : Nat, i ≤ L ∧ iv = .int .i64 (i : Int) ∧ pv = .int .u64 (pc : Int) ∧ mv = .int .u64 (mc : Int) ∧ bv = .int .u64 (bo : Int) ∧ pc ≤ 4294967295 ∧ mc ≤ 4294967295 ∧ bo ≤ 1 ∧ Row wr w.heap.size L R ∧ R < M.B ^ i ∧
    x % M.B ^ i * a + (bo + mc) * M.B ^ i = R + y % M.B ^ i * b + pc * M.B ^ i ∧ Below w.heap.size w wr) (fun _ _ _ iv _ => L - (intOf iv).toNat)
  case atStart => exact ⟨0, 0, 0, 0, 0, by omega, rfl, rfl, rfl, rfl, by omega, by omega, by omega, H0.out.1, by simp, by simp [Nat.mod_one], H0.out.2.1⟩
  case round =>
    obtain ⟨i, pc, mc, bo, R, hi, rfl, rfl, rfl, rfl, hpc, hmc, hbo, hr, hR, he, hbl⟩ := hrel
    have hx' := HX.out.below hbl (Nat.le_refl _)
    have hy' := HY.out.below hbl (Nat.le_refl _)
    have HE := Lib.hid (And.intro hR (And.intro he hbl))
    clear hR he hbl
    by_cases hlt : i < L
    · have hdx := M.dg_le x i
      have hdy := M.dg_le y i
      have k1 := M.carry_le32 hpc hdx ha
      have k2 := M.carry_le32 hmc hdy hb
      have hcell := hr.cell hlt
      have hfree := hr.free i
      have p1 := Nat.mul_le_mul hdx ha
      have p2 := Nat.mul_le_mul hdy hb
      obtain ⟨m1, hm1⟩ : ∃ m1, m1 = M.dg x i * a := ⟨_, rfl⟩
      obtain ⟨m2, hm2⟩ : ∃ m2, m2 = M.dg y i * b := ⟨_, rfl⟩
      have i1 : (M.dg x i : Int) * (a : Int) = (m1 : Int) := by rw [hm1]; rfl
      have i2 : (M.dg y i : Int) * (b : Int) = (m2 : Int) := by rw [hm2]; rfl
      rw [← hm1] at p1 k1
      rw [← hm2] at p2 k2
      obtain ⟨tp, htp⟩ : ∃ tp, tp = pc + m1 := ⟨_, rfl⟩
      obtain ⟨tm, htm⟩ : ∃ tm, tm = mc + m2 := ⟨_, rfl⟩
      rw [← htp] at k1
      rw [← htm] at k2
      have j1 : (pc : Int) + (m1 : Int) = (tp : Int) := by omega
      have j2 : (mc : Int) + (m2 : Int) = (tm : Int) := by omega
      obtain ⟨lp, hlp⟩ : ∃ lp, lp = tp % M.B := ⟨_, rfl⟩
      obtain ⟨lm, hlm⟩ : ∃ lm, lm = tm % M.B := ⟨_, rfl⟩
      have a1 := and_low k1.2
      have a2 := and_low k2.2
      rw [← hlp] at a1
      rw [← hlm] at a2
      have hlpb : lp ≤ 4294967295 := by rw [hlp]; have := Nat.mod_lt tp M.B_pos; rw [M.B_eq] at this; rw [M.B_eq]; omega
      have hlmb : lm ≤ 4294967295 := by rw [hlm]; have := Nat.mod_lt tm M.B_pos; rw [M.B_eq] at this; rw [M.B_eq]; omega
      obtain ⟨d, b', hd, hb', hdb, e1, e2⟩ := sub_one (x := lp) (low := lm) hlpb hlmb hbo
      have d1 := cast_div tp
      have d2 := cast_div tm
      obtain ⟨qp, hqp⟩ : ∃ qp, qp = tp / M.B := ⟨_, rfl⟩
      obtain ⟨qm, hqm⟩ : ∃ qm, qm = tm / M.B := ⟨_, rfl⟩
      rw [← hqp] at d1 k1
      rw [← hqm] at d2 k2
      have kp := k1.1
      have km := k2.1
      have tpb := k1.2
      have tmb := k2.2
      have step := M.combine_step (x := x) (y := y) (a := a) (b := b) (d := d) (b' := b') HE.out.1 HE.out.2.1 (by rw [← hm1, ← hm2, ← htp, ← htm, ← hlp, ← hlm]; exact hdb)
      rw [← hm1, ← hm2, ← htp, ← htm, ← hqp, ← hqm] at step
      have hdl := M.put_lt (k := i) (Nat.lt_of_lt_of_le HE.out.1 (M.pow_mono (Nat.le_succ i))) (Nat.lt_succ_self i) hd
      have HR := Lib.hid (And.intro hr (And.intro step (And.intro hd hdl)))
      clear hr step hd hdl k1 k2 hm1 hm2 htp htm hlp hlm hqp hqm hdb
      go_wp2_with (go_at_call 169; refine (limb_any _ _ (by assumption) (by omega) (by omega)).mono ?_; rintro e w' ⟨rfl, rfl⟩)
      go_roundw
      case rel =>
        exact ⟨i + 1, qp, qm, b', M.put R i d, by omega, by go_num, rfl, rfl, rfl, kp, km, hb', set_off HR.out.1 hlt HR.out.2.2.1 rfl, HR.out.2.2.2, HR.out.2.1, HE.out.2.2.setCell (Nat.le_refl _) _⟩
      case measure => simp [intOf]; omega
    · obtain rfl : i = L := by omega
      have hfin := M.combine_end (Nat.lt_of_lt_of_le HX.out.1 (M.pow_mono hlL)) (Nat.lt_of_lt_of_le HY.out.1 (M.pow_mono hlL')) HE.out.1 HU.out H0.out.2.2 HE.out.2.1
      have hlim : Limbs wr (some ⟨w.heap.size, 0, none⟩) i u := by rw [← hfin]; exact hr.limbs
      clear hr hx' hy' hlt hi hfin
      go_wp2_with (go_at_call 170; refine (trim_any (n := u) (by assumption) (by omega) (by omega)).mono ?_; rintro e w' ⟨v, rfl, hv, rfl⟩)
      go_ret
      exact ⟨_, rfl, hv, HE.out.2.2⟩
end Go.Proofs.YthnbocojjllfaaaGreatDoor
