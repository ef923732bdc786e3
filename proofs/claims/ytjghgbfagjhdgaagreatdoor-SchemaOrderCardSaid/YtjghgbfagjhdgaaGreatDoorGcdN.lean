/- combine: a multiple of one number less a multiple of another. leading: the highest 64 bits of two numbers. leading. steps: Euclid's steps with the highest bits. The steps applied. gcd of naturals: Lehmer's. -/
import Derived.Test.YtjghgbfagjhdgaaGreatDoorDivs
import Derived.Test.YtjghgbfagjhdgaaGreatDoorPure
import Derived.Test.YtjghgbfagjhdgaaGreatDoorLongs
import Derived.Test.YtjghgbfagjhdgaaGreatDoorRel
import Derived.IntWalk
import Derived.Deep.RegionHeld3
import Derived.WalkSpells
import Derived.Deep.LoopGhost
namespace Go.Proofs.YtjghgbfagjhdgaaGreatDoor
open Go Go.RowKit

set_option maxHeartbeats 1600000 in
set_option maxRecDepth 100000 in
theorem combine_nat {w : World} {A A' : Option Addr} {l l' x y a b u : Nat} (c c' : Nat) (hx : Limbs w A l x) (hy : Limbs w A' l' y) (hl : l ≤ 60000) (hl' : l' ≤ 60000) (ha : a ≤ 4294967295) (hb : b ≤ 4294967295)
    (hu : (u : Int) = a * x - b * y) (huL : u < M.B ^ (max l l')) :
    Calls Tryz.prog 230 #[.slice A l c, .int .u64 (a : Int), .slice A' l' c', .int .u64 (b : Int)] w fun e w' => ∃ v, e = .returned v ∧ IsNat w' v u ∧ Below w.heap.size w w' := by
  have hmk := make_nat (max l l') (by omega)
  rw [show ((max l l' : Nat) : Int) = max (l : Int) l' by omega] at hmk
  have HU := Lib.hid hu
  clear hu
  go_enter Tryz.func230, Tryz.ntmps230
  go_wp2_with fail
  have hr0 := Row.new w (max l l')
  have hb0 : Below w.heap.size w (w.alloc (.cells (madeCells #[Value.int .u32 0] (max l l')) 193)) := (Below.refl _ _).alloc (Nat.le_refl _) _
  have hlL : l ≤ max l l' := Nat.le_max_left _ _
  have hlL' : l' ≤ max l l' := Nat.le_max_right _ _
  have hL : max l l' ≤ 60000 := by omega
  clear hmk
  generalize w.alloc (.cells (madeCells #[Value.int .u32 0] (max l l')) 193) = w0 at *
  generalize max l l' = L at *
  have H0 := Lib.hid (And.intro hr0 (And.intro hb0 huL))
  have HX := Lib.hid hx
  have HY := Lib.hid hy
  clear hr0 hb0 hx hy huL
  go_loopw [10, 11, 12, 23] (fun pv mv bv iv wr => ∃ i pc mc bo R : Nat, i ≤ L ∧ iv = .int .i64 (i : Int) ∧ pv = .int .u64 (pc : Int) ∧ mv = .int .u64 (mc : Int) ∧ bv = .int .u64 (bo : Int) ∧ pc ≤ 4294967295 ∧ mc ≤ 4294967295 ∧ bo ≤ 1 ∧ Row wr w.heap.size L R ∧ R < M.B ^ i ∧
    x % M.B ^ i * a + (bo + mc) * M.B ^ i = R + y % M.B ^ i * b + pc * M.B ^ i ∧ Below w.heap.size w wr) (fun _ _ _ iv _ => L - (intOf iv).toNat)
  case atStart => exact ⟨0, 0, 0, 0, 0, by omega, rfl, rfl, rfl, rfl, by omega, by omega, by omega, H0.out.1, by simp, by simp [Nat.mod_one], H0.out.2.1⟩
  case round =>
    obtain ⟨i, pc, mc, bo, R, hi, rfl, rfl, rfl, rfl, hpc, hmc, hbo, hr, hR, he, hbl⟩ := hrel
    have hx' := HX.out.below hbl (Nat.le_refl _)
    have hy' := HY.out.below hbl (Nat.le_refl _)
    have HE := Lib.hid (And.intro hR (And.intro he hbl))
    clear hR he hbl
    by_cases hlt : i < L
    · have hdx := M.dg_le x i
      have hdy := M.dg_le y i
      have k1 := M.carry_le32 hpc hdx ha
      have k2 := M.carry_le32 hmc hdy hb
      have hcell := hr.cell hlt
      have hfree := hr.free i
      have p1 := Nat.mul_le_mul hdx ha
      have p2 := Nat.mul_le_mul hdy hb
      obtain ⟨m1, hm1⟩ : ∃ m1, m1 = M.dg x i * a := ⟨_, rfl⟩
      obtain ⟨m2, hm2⟩ : ∃ m2, m2 = M.dg y i * b := ⟨_, rfl⟩
      have i1 : (M.dg x i : Int) * (a : Int) = (m1 : Int) := by rw [hm1]; rfl
      have i2 : (M.dg y i : Int) * (b : Int) = (m2 : Int) := by rw [hm2]; rfl
      rw [← hm1] at p1 k1
      rw [← hm2] at p2 k2
      obtain ⟨tp, htp⟩ : ∃ tp, tp = pc + m1 := ⟨_, rfl⟩
      obtain ⟨tm, htm⟩ : ∃ tm, tm = mc + m2 := ⟨_, rfl⟩
      rw [← htp] at k1
      rw [← htm] at k2
      have j1 : (pc : Int) + (m1 : Int) = (tp : Int) := by omega
      have j2 : (mc : Int) + (m2 : Int) = (tm : Int) := by omega
      obtain ⟨lp, hlp⟩ : ∃ lp, lp = tp % M.B := ⟨_, rfl⟩
      obtain ⟨lm, hlm⟩ : ∃ lm, lm = tm % M.B := ⟨_, rfl⟩
      have a1 := and_low k1.2
      have a2 := and_low k2.2
      rw [← hlp] at a1
      rw [← hlm] at a2
      have hlpb : lp ≤ 4294967295 := by rw [hlp]; have := Nat.mod_lt tp M.B_pos; rw [M.B_eq] at this; rw [M.B_eq]; omega
      have hlmb : lm ≤ 4294967295 := by rw [hlm]; have := Nat.mod_lt tm M.B_pos; rw [M.B_eq] at this; rw [M.B_eq]; omega
      obtain ⟨d, b', hd, hb', hdb, e1, e2⟩ := sub_one (x := lp) (low := lm) hlpb hlmb hbo
      have d1 := cast_div tp
      have d2 := cast_div tm
      obtain ⟨qp, hqp⟩ : ∃ qp, qp = tp / M.B := ⟨_, rfl⟩
      obtain ⟨qm, hqm⟩ : ∃ qm, qm = tm / M.B := ⟨_, rfl⟩
      rw [← hqp] at d1 k1
      rw [← hqm] at d2 k2
      have kp := k1.1
      have km := k2.1
      have tpb := k1.2
      have tmb := k2.2
      have step := M.combine_step (x := x) (y := y) (a := a) (b := b) (d := d) (b' := b') HE.out.1 HE.out.2.1 (by rw [← hm1, ← hm2, ← htp, ← htm, ← hlp, ← hlm]; exact hdb)
      rw [← hm1, ← hm2, ← htp, ← htm, ← hqp, ← hqm] at step
      have hdl := M.put_lt (k := i) (Nat.lt_of_lt_of_le HE.out.1 (M.pow_mono (Nat.le_succ i))) (Nat.lt_succ_self i) hd
      have HR := Lib.hid (And.intro hr (And.intro step (And.intro hd hdl)))
      clear hr step hd hdl k1 k2 hm1 hm2 htp htm hlp hlm hqp hqm hdb
      go_wp2_with (go_at_call 206; refine (limb_any _ _ (by assumption) (by omega) (by omega)).mono ?_; rintro e w' ⟨rfl, rfl⟩)
      go_roundw
      case rel =>
        exact ⟨i + 1, qp, qm, b', M.put R i d, by omega, by go_num, rfl, rfl, rfl, kp, km, hb', set_off HR.out.1 hlt HR.out.2.2.1 rfl, HR.out.2.2.2, HR.out.2.1, HE.out.2.2.setCell (Nat.le_refl _) _⟩
      case measure => simp [intOf]; omega
    · obtain rfl : i = L := by omega
      have hfin := M.combine_end (Nat.lt_of_lt_of_le HX.out.1 (M.pow_mono hlL)) (Nat.lt_of_lt_of_le HY.out.1 (M.pow_mono hlL')) HE.out.1 HU.out H0.out.2.2 HE.out.2.1
      have hlim : Limbs wr (some ⟨w.heap.size, 0, none⟩) i u := by rw [← hfin]; exact hr.limbs
      clear hr hx' hy' hlt hi hfin
      go_wp2_with (go_at_call 172; refine (trim_any (n := u) (by assumption) (by omega) (by omega)).mono ?_; rintro e w' ⟨v, rfl, hv, rfl⟩)
      go_ret
      exact ⟨_, rfl, hv, HE.out.2.2⟩
end Go.Proofs.YtjghgbfagjhdgaaGreatDoor
namespace Go.Proofs.YtjghgbfagjhdgaaGreatDoor
open Go Go.RowKit

theorem or_high {t c s : Nat} (hc : c < 2 ^ s) (h1 : t * 2 ^ s + c < 18446744073709551616) : bits .or .u64 ((t * 2 ^ s : Nat) : Int) (c : Int) = ((t * 2 ^ s + c : Nat) : Int) := by
  have h := Nat.two_pow_add_eq_or_of_lt hc t
  rw [u64_or_nat _ _ (by omega) (by omega), Nat.mul_comm t, ← h]

/-- What an operation yields: this value. -/
def IsV (u : Value) : Value → World → Prop := fun v _ => v = u
/-- What the walk of leading's function reads. -/
structure AtW (w w' : World) (A : Option Addr) (l z g h n s : Nat) : Prop where
  hz : Limbs w' A l z
  cn : w'.cell? ⟨g, 0, none⟩ = some (.int .i64 (n : Int))
  cs : w'.cell? ⟨h, 0, none⟩ = some (.int .i64 (s : Int))
  hd : Drawn w w'
set_option linter.unusedSimpArgs false in
set_option maxHeartbeats 1600000 in
set_option maxRecDepth 100000 in
theorem at_any {w : World} {A : Option Addr} {l c g h m s z n : Nat} (hn : n = m + 3) (hz : Limbs w A l z) (hl : l ≤ 60000) (hm : m ≤ 60000) (hs : s < 32) (hzs : z * 2 ^ s < M.B ^ (m + 3))
    (cn : w.cell? ⟨g, 0, none⟩ = some (.int .i64 (n : Int))) (cs : w.cell? ⟨h, 0, none⟩ = some (.int .i64 (s : Int))) :
    Calls Tryz.prog 229 #[.slice A l c, .pointer (some ⟨g, 0, none⟩), .pointer (some ⟨h, 0, none⟩)] w fun e w' => e = .returned (.int .u64 ((z * 2 ^ s / M.B ^ (m + 1) : Nat) : Int)) ∧ Drawn w w' := by
  have hz3 : z < M.B ^ (m + 3) := Nat.lt_of_le_of_lt (Nat.le_mul_of_pos_right z (Nat.pow_pos (by decide))) hzs
  have hv := M.top_val hs hz3
  obtain ⟨n1, hn1⟩ : ∃ n1, n1 = m + 2 := ⟨_, rfl⟩
  obtain ⟨n2, hn2⟩ : ∃ n2, n2 = m + 1 := ⟨_, rfl⟩
  obtain ⟨n3, hn3⟩ : ∃ n3, n3 = m := ⟨_, rfl⟩
  rw [← hn1, ← hn2, ← hn3] at hv
  have b1 := M.dg_le z n1
  have b2 := M.dg_le z n2
  have b3 := M.dg_le z n3
  have hB : M.B ^ (m + 3) = M.B * M.B * M.B ^ (m + 1) := by rw [show m + 3 = (m + 1) + 1 + 1 by omega, M.pow_succ', M.pow_succ']; rw [Nat.mul_assoc, Nat.mul_comm]
  obtain ⟨R, hR⟩ : ∃ R, R = z * 2 ^ s / M.B ^ n2 := ⟨_, rfl⟩
  have hRb : R < 18446744073709551616 := by
    have h1 : z * 2 ^ s / M.B ^ (m + 1) < M.B * M.B := (Nat.div_lt_iff_lt_mul (M.pow_pos _)).2 (by rw [← hB]; exact hzs)
    rw [hR, hn2]
    have : M.B * M.B = 18446744073709551616 := by rw [M.B_eq]
    omega
  rw [← hR] at hv
  obtain ⟨t, ht⟩ : ∃ t, t = M.dg z n1 * M.B + M.dg z n2 := ⟨_, rfl⟩
  obtain ⟨k, hk⟩ : ∃ k, k = M.dg z n3 * 2 ^ s := ⟨_, rfl⟩
  rw [← ht, ← hk] at hv
  have h2 := two_pow_le hs
  have hkb : k ≤ 9223372034707292160 := by rw [hk]; exact Nat.le_trans (Nat.mul_le_mul b3 h2) (by omega)
  have hkc : k / M.B < 2 ^ s := by rw [hk]; have := shl_carry (k := 0) (s := s) (Nat.pow_pos (by decide)) b3; rwa [Nat.zero_add] at this
  obtain ⟨ts, hts⟩ : ∃ ts, ts = t * 2 ^ s := ⟨_, rfl⟩
  obtain ⟨kh, hkh⟩ : ∃ kh, kh = k / M.B := ⟨_, rfl⟩
  have hor := or_high (t := t) (c := kh) (s := s) (by rw [hkh]; exact hkc) (by rw [hkh, hv]; exact hRb)
  rw [← hts] at hor
  have hRe : ts + kh = R := by rw [hts, hkh]; exact hv
  rw [hRe] at hor
  have o1 : bits .or .u64 ((M.dg z n1 : Int) * 4294967296) (M.dg z n2 : Int) = (t : Int) := by rw [or_plain b1 b2, ht]
  have o2 : bits .or .u64 (IntKind.u64.wrap ((M.dg z n1 : Int) * 4294967296)) (M.dg z n2 : Int) = (t : Int) := by rw [or_wide b1 b2, ht]
  have w1 : IntKind.u64.wrap ((t : Int) * 2 ^ s) = (ts : Int) := by
    have e : ((t : Int) * 2 ^ s) = (ts : Int) := by rw [hts]; push_cast; rfl
    rw [e, IntKind.wrap_u64]; omega
  have w2 : IntKind.u64.wrap ((M.dg z n3 : Int) * 2 ^ s) = (k : Int) := by
    have e : ((M.dg z n3 : Int) * 2 ^ s) = (k : Int) := by rw [hk]; push_cast; rfl
    rw [e, IntKind.wrap_u64]; omega
  have w3 : (k : Int) / 4294967296 = (kh : Int) := by rw [cast_div, hkh]
  have e1 : IntKind.i64.wrap (n1 : Int) = (n1 : Int) := IntWalk.i64_in _ (by omega)
  have e2 : IntKind.i64.wrap (n2 : Int) = (n2 : Int) := IntWalk.i64_in _ (by omega)
  have e3 : IntKind.i64.wrap (n3 : Int) = (n3 : Int) := IntWalk.i64_in _ (by omega)
  have f1 : (n : Int) - 1 = (n1 : Int) := by omega
  have f2 : (n : Int) - 2 = (n2 : Int) := by omega
  have f3 : (n : Int) - 3 = (n3 : Int) := by omega
  have q1 : n1 ≤ 60002 := by omega
  have q2 : n2 ≤ 60001 := by omega
  have q3 : n3 ≤ 60000 := by omega
  have HR := Lib.hid (And.intro hR hn2)
  rw [show z * 2 ^ s / M.B ^ (m + 1) = R by rw [hR, hn2]]
  clear hz3 hv hn1 hn2 hn3 hB hR hRb ht hk hkb hkc hts hkh hRe hn hzs h2
  go_enter Tryz.func229, Tryz.ntmps229
  go_wp2_with fail
  refine Rel.region_full 21 [0, 1, 2, 3, 4, 5, 6, 7, 8, 9, 10, 11, 12, 13, 14, 15, 16, 17, 18, 19, 20] (R := [IsV (.slice A l c), IsV (.int .i64 (n : Int)), IsV (.int .i64 (n1 : Int)), IsV (.int .u64 (M.dg z n1 : Int)), IsV (.int .u64 (IntKind.u64.wrap ((M.dg z n1 : Int) * 4294967296))), IsV (.slice A l c), IsV (.int .i64 (n : Int)), IsV (.int .i64 (n2 : Int)), IsV (.int .u64 (M.dg z n2 : Int)), IsV (.int .u64 (t : Int)), IsV (.int .i64 (s : Int)), IsV (.int .u64 (ts : Int)), IsV (.slice A l c), IsV (.int .i64 (n : Int)), IsV (.int .i64 (n3 : Int)), IsV (.int .u64 (M.dg z n3 : Int)), IsV (.int .i64 (s : Int)), IsV (.int .u64 (k : Int)), IsV (.int .u64 (kh : Int)), IsV (.int .u64 (R : Int)), IsV (.int .u64 (R : Int))])
    (E := fun _ w' => AtW w w' A l z g h n s) (T := fun a b => a = b) rfl rfl (by kernel_rfl) (by kernel_rfl) ⟨hz, cn, cs, (Drawn.refl w).drewN 1⟩ ?_ ?_ ?_
  · intro D i v w1 w2 hi hE hT hv
    subst hT
    exact hv
  · refine Rel.Steps.cons (L := []) rfl (by kernel_rfl) ?_ ?_
    · intro vals w' D hE hF hR K hK
      simp only [Rel.putL, Rel.dst, List.getElem?_toArray, List.getElem?_cons_zero, List.getElem?_cons_succ, Option.bind_some, Act.put, List.setIfInBounds_toArray, List.set_cons_zero, List.set_cons_succ] at hK ⊢
      go_simp
      exact hK _ _ rfl rfl (hE)
    refine Rel.Steps.cons (L := []) rfl (by kernel_rfl) ?_ ?_
    · intro vals w' D hE hF hR K hK
      have cn := hE.cn
      simp only [Rel.putL, Rel.dst, List.getElem?_toArray, List.getElem?_cons_zero, List.getElem?_cons_succ, Option.bind_some, Act.put, List.setIfInBounds_toArray, List.set_cons_zero, List.set_cons_succ] at hK ⊢
      go_simp
      exact hK _ _ rfl rfl (hE)
    refine Rel.Steps.cons (L := [1]) rfl (by kernel_rfl) ?_ ?_
    · intro vals w' D hE hF hR K hK
      have d1 : vals 1 = (.int .i64 (n : Int)) := hR.1
      simp only [Rel.putL, Rel.dst, List.getElem?_toArray, List.getElem?_cons_zero, List.getElem?_cons_succ, Option.bind_some, Act.put, List.setIfInBounds_toArray, List.set_cons_zero, List.set_cons_succ, d1] at hK ⊢
      go_simp
      exact hK _ _ rfl rfl (hE)
    refine Rel.Steps.cons (L := [0, 2]) rfl (by kernel_rfl) ?_ ?_
    · intro vals w' D hE hF hR K hK
      have d0 : vals 0 = (.slice A l c) := hR.1
      have d2 : vals 2 = (.int .i64 (n1 : Int)) := hR.2.1
      simp only [Rel.putL, Rel.dst, List.getElem?_toArray, List.getElem?_cons_zero, List.getElem?_cons_succ, Option.bind_some, Act.put, List.setIfInBounds_toArray, List.set_cons_zero, List.set_cons_succ, d0, d2] at hK ⊢
      go_simp
      go_at_call 206
      refine (limb_any c n1 hE.hz (by omega) (by omega)).mono ?_
      rintro e w2 ⟨rfl, rfl⟩
      exact hK _ _ rfl rfl hE
    refine Rel.Steps.cons (L := [3]) rfl (by kernel_rfl) ?_ ?_
    · intro vals w' D hE hF hR K hK
      have d3 : vals 3 = (.int .u64 (M.dg z n1 : Int)) := hR.1
      simp only [Rel.putL, Rel.dst, List.getElem?_toArray, List.getElem?_cons_zero, List.getElem?_cons_succ, Option.bind_some, Act.put, List.setIfInBounds_toArray, List.set_cons_zero, List.set_cons_succ, d3] at hK ⊢
      go_simp
      exact hK _ _ rfl rfl (hE)
    refine Rel.Steps.cons (L := []) rfl (by kernel_rfl) ?_ ?_
    · intro vals w' D hE hF hR K hK
      simp only [Rel.putL, Rel.dst, List.getElem?_toArray, List.getElem?_cons_zero, List.getElem?_cons_succ, Option.bind_some, Act.put, List.setIfInBounds_toArray, List.set_cons_zero, List.set_cons_succ] at hK ⊢
      go_simp
      exact hK _ _ rfl rfl (hE)
    refine Rel.Steps.cons (L := []) rfl (by kernel_rfl) ?_ ?_
    · intro vals w' D hE hF hR K hK
      have cn := hE.cn
      simp only [Rel.putL, Rel.dst, List.getElem?_toArray, List.getElem?_cons_zero, List.getElem?_cons_succ, Option.bind_some, Act.put, List.setIfInBounds_toArray, List.set_cons_zero, List.set_cons_succ] at hK ⊢
      go_simp
      exact hK _ _ rfl rfl (hE)
    refine Rel.Steps.cons (L := [6]) rfl (by kernel_rfl) ?_ ?_
    · intro vals w' D hE hF hR K hK
      have d6 : vals 6 = (.int .i64 (n : Int)) := hR.1
      simp only [Rel.putL, Rel.dst, List.getElem?_toArray, List.getElem?_cons_zero, List.getElem?_cons_succ, Option.bind_some, Act.put, List.setIfInBounds_toArray, List.set_cons_zero, List.set_cons_succ, d6] at hK ⊢
      go_simp
      exact hK _ _ rfl rfl (hE)
    refine Rel.Steps.cons (L := [5, 7]) rfl (by kernel_rfl) ?_ ?_
    · intro vals w' D hE hF hR K hK
      have d5 : vals 5 = (.slice A l c) := hR.1
      have d7 : vals 7 = (.int .i64 (n2 : Int)) := hR.2.1
      simp only [Rel.putL, Rel.dst, List.getElem?_toArray, List.getElem?_cons_zero, List.getElem?_cons_succ, Option.bind_some, Act.put, List.setIfInBounds_toArray, List.set_cons_zero, List.set_cons_succ, d5, d7] at hK ⊢
      go_simp
      go_at_call 206
      refine (limb_any c n2 hE.hz (by omega) (by omega)).mono ?_
      rintro e w2 ⟨rfl, rfl⟩
      exact hK _ _ rfl rfl hE
    refine Rel.Steps.cons (L := [4, 8]) rfl (by kernel_rfl) ?_ ?_
    · intro vals w' D hE hF hR K hK
      have d4 : vals 4 = (.int .u64 (IntKind.u64.wrap ((M.dg z n1 : Int) * 4294967296))) := hR.1
      have d8 : vals 8 = (.int .u64 (M.dg z n2 : Int)) := hR.2.1
      simp only [Rel.putL, Rel.dst, List.getElem?_toArray, List.getElem?_cons_zero, List.getElem?_cons_succ, Option.bind_some, Act.put, List.setIfInBounds_toArray, List.set_cons_zero, List.set_cons_succ, d4, d8] at hK ⊢
      go_simp
      exact hK _ _ rfl rfl (hE)
    refine Rel.Steps.cons (L := []) rfl (by kernel_rfl) ?_ ?_
    · intro vals w' D hE hF hR K hK
      have cs := hE.cs
      simp only [Rel.putL, Rel.dst, List.getElem?_toArray, List.getElem?_cons_zero, List.getElem?_cons_succ, Option.bind_some, Act.put, List.setIfInBounds_toArray, List.set_cons_zero, List.set_cons_succ] at hK ⊢
      go_simp
      exact hK _ _ rfl rfl (hE)
    refine Rel.Steps.cons (L := [9, 10]) rfl (by kernel_rfl) ?_ ?_
    · intro vals w' D hE hF hR K hK
      have d9 : vals 9 = (.int .u64 (t : Int)) := hR.1
      have d10 : vals 10 = (.int .i64 (s : Int)) := hR.2.1
      simp only [Rel.putL, Rel.dst, List.getElem?_toArray, List.getElem?_cons_zero, List.getElem?_cons_succ, Option.bind_some, Act.put, List.setIfInBounds_toArray, List.set_cons_zero, List.set_cons_succ, d9, d10] at hK ⊢
      go_simp
      exact hK _ _ rfl rfl (hE)
    refine Rel.Steps.cons (L := []) rfl (by kernel_rfl) ?_ ?_
    · intro vals w' D hE hF hR K hK
      simp only [Rel.putL, Rel.dst, List.getElem?_toArray, List.getElem?_cons_zero, List.getElem?_cons_succ, Option.bind_some, Act.put, List.setIfInBounds_toArray, List.set_cons_zero, List.set_cons_succ] at hK ⊢
      go_simp
      exact hK _ _ rfl rfl (hE)
    refine Rel.Steps.cons (L := []) rfl (by kernel_rfl) ?_ ?_
    · intro vals w' D hE hF hR K hK
      have cn := hE.cn
      simp only [Rel.putL, Rel.dst, List.getElem?_toArray, List.getElem?_cons_zero, List.getElem?_cons_succ, Option.bind_some, Act.put, List.setIfInBounds_toArray, List.set_cons_zero, List.set_cons_succ] at hK ⊢
      go_simp
      exact hK _ _ rfl rfl (hE)
    refine Rel.Steps.cons (L := [13]) rfl (by kernel_rfl) ?_ ?_
    · intro vals w' D hE hF hR K hK
      have d13 : vals 13 = (.int .i64 (n : Int)) := hR.1
      simp only [Rel.putL, Rel.dst, List.getElem?_toArray, List.getElem?_cons_zero, List.getElem?_cons_succ, Option.bind_some, Act.put, List.setIfInBounds_toArray, List.set_cons_zero, List.set_cons_succ, d13] at hK ⊢
      go_simp
      exact hK _ _ rfl rfl (hE)
    refine Rel.Steps.cons (L := [12, 14]) rfl (by kernel_rfl) ?_ ?_
    · intro vals w' D hE hF hR K hK
      have d12 : vals 12 = (.slice A l c) := hR.1
      have d14 : vals 14 = (.int .i64 (n3 : Int)) := hR.2.1
      simp only [Rel.putL, Rel.dst, List.getElem?_toArray, List.getElem?_cons_zero, List.getElem?_cons_succ, Option.bind_some, Act.put, List.setIfInBounds_toArray, List.set_cons_zero, List.set_cons_succ, d12, d14] at hK ⊢
      go_simp
      go_at_call 206
      refine (limb_any c n3 hE.hz (by omega) (by omega)).mono ?_
      rintro e w2 ⟨rfl, rfl⟩
      exact hK _ _ rfl rfl hE
    refine Rel.Steps.cons (L := []) rfl (by kernel_rfl) ?_ ?_
    · intro vals w' D hE hF hR K hK
      have cs := hE.cs
      simp only [Rel.putL, Rel.dst, List.getElem?_toArray, List.getElem?_cons_zero, List.getElem?_cons_succ, Option.bind_some, Act.put, List.setIfInBounds_toArray, List.set_cons_zero, List.set_cons_succ] at hK ⊢
      go_simp
      exact hK _ _ rfl rfl (hE)
    refine Rel.Steps.cons (L := [15, 16]) rfl (by kernel_rfl) ?_ ?_
    · intro vals w' D hE hF hR K hK
      have d15 : vals 15 = (.int .u64 (M.dg z n3 : Int)) := hR.1
      have d16 : vals 16 = (.int .i64 (s : Int)) := hR.2.1
      simp only [Rel.putL, Rel.dst, List.getElem?_toArray, List.getElem?_cons_zero, List.getElem?_cons_succ, Option.bind_some, Act.put, List.setIfInBounds_toArray, List.set_cons_zero, List.set_cons_succ, d15, d16] at hK ⊢
      go_simp
      exact hK _ _ rfl rfl (hE)
    refine Rel.Steps.cons (L := [17]) rfl (by kernel_rfl) ?_ ?_
    · intro vals w' D hE hF hR K hK
      have d17 : vals 17 = (.int .u64 (k : Int)) := hR.1
      simp only [Rel.putL, Rel.dst, List.getElem?_toArray, List.getElem?_cons_zero, List.getElem?_cons_succ, Option.bind_some, Act.put, List.setIfInBounds_toArray, List.set_cons_zero, List.set_cons_succ, d17] at hK ⊢
      go_simp
      exact hK _ _ rfl rfl (hE)
    refine Rel.Steps.cons (L := [11, 18]) rfl (by kernel_rfl) ?_ ?_
    · intro vals w' D hE hF hR K hK
      have d11 : vals 11 = (.int .u64 (ts : Int)) := hR.1
      have d18 : vals 18 = (.int .u64 (kh : Int)) := hR.2.1
      simp only [Rel.putL, Rel.dst, List.getElem?_toArray, List.getElem?_cons_zero, List.getElem?_cons_succ, Option.bind_some, Act.put, List.setIfInBounds_toArray, List.set_cons_zero, List.set_cons_succ, d11, d18] at hK ⊢
      go_simp
      exact hK _ _ rfl rfl (hE)
    refine Rel.Steps.cons (L := [19]) rfl (by kernel_rfl) ?_ ?_
    · intro vals w' D hE hF hR K hK
      have d19 : vals 19 = (.int .u64 (R : Int)) := hR.1
      simp only [Rel.putL, Rel.dst, List.getElem?_toArray, List.getElem?_cons_zero, List.getElem?_cons_succ, Option.bind_some, Act.put, List.setIfInBounds_toArray, List.set_cons_zero, List.set_cons_succ, d19] at hK ⊢
      go_simp
      exact hK _ _ rfl rfl (hE)
    exact Rel.Steps.done
  · intro vals w' D hD hE hR
    have d20 : vals 20 = _ := Rel.AllR.mem.1 hR 20 (by simp)
    simp only [Rel.putL, Rel.dst, List.getElem?_toArray, List.getElem?_cons_zero, List.getElem?_cons_succ, Option.bind_some, Act.put, List.setIfInBounds_toArray, List.set_cons_zero, List.set_cons_succ, d20]
    go_wp2
    go_ret
    exact ⟨rfl, hE.hd⟩
end Go.Proofs.YtjghgbfagjhdgaaGreatDoor
namespace Go.Proofs.YtjghgbfagjhdgaaGreatDoor
open Go Go.RowKit

set_option maxHeartbeats 1600000 in
set_option maxRecDepth 100000 in
theorem leading_any {w : World} {A A' : Option Addr} {l' m x y : Nat} (c c' : Nat) (hx : Limbs w A (m + 3) x) (hy : Limbs w A' l' y) (hyx : y ≤ x) (nx : M.B ^ (m + 2) ≤ x) (hm : m ≤ 50000) (hl' : l' ≤ 60000) :
    Calls Tryz.prog 208 #[.slice A (m + 3) c, .slice A' l' c'] w fun e w' => ∃ s : Nat, e = .returned (.tuple #[.int .u64 ((x * 2 ^ s / M.B ^ (m + 1) : Nat) : Int), .int .u64 ((y * 2 ^ s / M.B ^ (m + 1) : Nat) : Int)]) ∧ s < 32 ∧ x * 2 ^ s < M.B ^ (m + 3) ∧ Below w.heap.size w w' := by
  obtain ⟨b, off, rfl, hb, hc⟩ := hx.at_ (show m + 2 < m + 3 by omega)
  have hcell := hc (m + 2) (by omega)
  have hdg := M.dg_le x (m + 2)
  have htop := M.top_eq (n := m + 2) hx.1
  have hpos : 0 < M.dg x (m + 2) := by
    rw [htop]; exact (Nat.le_div_iff_mul_le (M.pow_pos _)).2 (by omega)
  obtain ⟨s, hs, hse, hs1, hs2⟩ := lead_norm hpos hdg
  have hN := (M.scale_norm htop hs1 hs2).1
  have hNy : y * 2 ^ s < M.B ^ (m + 3) := Nat.lt_of_le_of_lt (Nat.mul_le_mul_right _ hyx) hN
  obtain ⟨n, hn⟩ : ∃ n, n = m + 3 := ⟨_, rfl⟩
  have i1 : (m : Int) + 3 = (n : Int) := by omega
  have i2 : IntKind.i64.wrap ((n : Int) - 1) = (m : Int) + 2 := by rw [IntWalk.i64_in _ (by omega)]; omega
  have i3 : (n : Int) - 1 = (m : Int) + 2 := by omega
  obtain ⟨av, hav⟩ : ∃ av, av = x * 2 ^ s / M.B ^ (m + 1) := ⟨_, rfl⟩
  obtain ⟨bv, hbv⟩ : ∃ bv, bv = y * 2 ^ s / M.B ^ (m + 1) := ⟨_, rfl⟩
  have H := Lib.hid (And.intro hx (And.intro hy (And.intro hn (And.intro hN (And.intro hNy (And.intro hav hbv))))))
  clear nx hyx hx hy hc htop hpos hs1 hs2 hN hNy hav hbv
  rw [← hn]
  clear hn
  go_enter Tryz.func208, Tryz.ntmps208
  go_wp2_with fail
  refine (lead_any hdg hse).mono ?_
  rintro e wz ⟨rfl, hwz⟩
  obtain rfl := hwz
  clear hcell hdg hse i2 i3
  go_wp2_with fail
  have hb1 : Below w.heap.size w (w.alloc (.cells #[.int .i64 (n : Int)] 3)) := (Below.refl _ _).alloc (Nat.le_refl _) _
  have hc1 : (w.alloc (.cells #[.int .i64 (n : Int)] 3)).cell? ⟨w.heap.size, 0, none⟩ = some (.int .i64 (n : Int)) := by go_cell
  have hs1 : (w.alloc (.cells #[.int .i64 (n : Int)] 3)).heap.size = w.heap.size + 1 := by simp
  generalize w.alloc (.cells #[.int .i64 (n : Int)] 3) = w1 at *
  have hb2 : Below w1.heap.size w1 (w1.alloc (.cells #[.int .i64 (s : Int)] 3)) := (Below.refl _ _).alloc (Nat.le_refl _) _
  have hc2 : (w1.alloc (.cells #[.int .i64 (s : Int)] 3)).cell? ⟨w1.heap.size, 0, none⟩ = some (.int .i64 (s : Int)) := by go_cell
  have hc3 := (hb2.cell (p := ⟨w.heap.size, 0, none⟩) (by simp; omega)).trans hc1
  rw [hs1] at hc2
  have HB := Lib.hid (And.intro (hb1.trans (hb2.mono hb1.size)) (And.intro hc3 hc2))
  clear hb1 hb2 hc1 hc2 hc3
  generalize w1.alloc (.cells #[.int .i64 (s : Int)] 3) = w2 at *
  refine (at_any (m := m) (z := x) H.out.2.2.1 (by rw [H.out.2.2.1]; exact H.out.1.below HB.out.1 (Nat.le_refl _)) (by have := H.out.2.2.1; omega) (by omega) hs H.out.2.2.2.1 HB.out.2.1 HB.out.2.2).mono ?_
  rw [← H.out.2.2.2.2.2.1]
  rintro e w3 ⟨rfl, hd⟩
  have HD := Lib.hid hd
  clear hd
  go_wp2_with fail
  refine (at_any (m := m) (z := y) H.out.2.2.1 ((H.out.2.1.below HB.out.1 (Nat.le_refl _)).drawn HD.out) hl' (by omega) hs H.out.2.2.2.2.1 (((HD.out.below w2.heap.size).cell (by obtain ⟨k, hk⟩ := HD.out; have := HB.out.1.size; have h := World.block_lt_of_cell? w2 _ HB.out.2.1; exact h)).trans HB.out.2.1) (((HD.out.below w2.heap.size).cell (by exact World.block_lt_of_cell? w2 _ HB.out.2.2)).trans HB.out.2.2)).mono ?_
  rw [← H.out.2.2.2.2.2.2]
  rintro e w4 ⟨rfl, hd4⟩
  have HF := Lib.hid ((HB.out.1.trans ((HD.out.below w2.heap.size).mono HB.out.1.size)).trans (hd4.below w.heap.size))
  clear hd4
  go_wp2
  go_ret2
  refine ⟨s, ?_, hs, by rw [H.out.2.2.1]; exact H.out.2.2.2.1, HF.out⟩
  rw [← H.out.2.2.2.2.2.1, ← H.out.2.2.2.2.2.2]
  rfl
end Go.Proofs.YtjghgbfagjhdgaaGreatDoor
namespace Go.Proofs.YtjghgbfagjhdgaaGreatDoor
open Go Go.RowKit

/-- Block g holds the steps' effect. -/
def Euc (w : World) (g a0 b0 a1 b1 : Nat) (ev : Bool) : Prop := w.heap[g]? = some (.cells #[.int .u64 (a0 : Int), .int .u64 (b0 : Int), .int .u64 (a1 : Int), .int .u64 (b1 : Int), .bool ev] 218 (0, 0))
section
variable {w w' : World} {g a0 b0 a1 b1 : Nat} {ev : Bool}
theorem Euc.lt (h : Euc w g a0 b0 a1 b1 ev) : g < w.heap.size := lt_of_block h
theorem Euc.c0 (h : Euc w g a0 b0 a1 b1 ev) : w.cell? ⟨g, 0, none⟩ = some (.int .u64 (a0 : Int)) := by unfold Euc at h; simp [World.cell?, h]
theorem Euc.c1 (h : Euc w g a0 b0 a1 b1 ev) : w.cell? ⟨g, 1, none⟩ = some (.int .u64 (b0 : Int)) := by unfold Euc at h; simp [World.cell?, h]
theorem Euc.c2 (h : Euc w g a0 b0 a1 b1 ev) : w.cell? ⟨g, 2, none⟩ = some (.int .u64 (a1 : Int)) := by unfold Euc at h; simp [World.cell?, h]
theorem Euc.c3 (h : Euc w g a0 b0 a1 b1 ev) : w.cell? ⟨g, 3, none⟩ = some (.int .u64 (b1 : Int)) := by unfold Euc at h; simp [World.cell?, h]
theorem Euc.c4 (h : Euc w g a0 b0 a1 b1 ev) : w.cell? ⟨g, 4, none⟩ = some (.bool ev) := by unfold Euc at h; simp [World.cell?, h]
theorem Euc.f (h : Euc w g a0 b0 a1 b1 ev) (i : Nat) : w.frozen? ⟨g, i, none⟩ = false := by unfold Euc at h; simp [World.frozen?, h]
theorem Euc.drewN (h : Euc w g a0 b0 a1 b1 ev) (k : Nat) : Euc (w.drewN k) g a0 b0 a1 b1 ev := h
theorem Euc.below (h : Euc w g a0 b0 a1 b1 ev) {B : Nat} (hb : Below B w w') (hg : g < B) : Euc w' g a0 b0 a1 b1 ev := by
  unfold Euc at h ⊢; rw [hb.block g hg]; exact h
theorem Euc.far (h : Euc w g a0 b0 a1 b1 ev) {p : Addr} (hp : p.block ≠ g) (v : Value) : Euc (w.setCell p v) g a0 b0 a1 b1 ev := by
  unfold Euc at h ⊢; rw [Below.heap_setCell w p v g (Ne.symm hp)]; exact h
theorem Euc.s0 (h : Euc w g a0 b0 a1 b1 ev) (n : Nat) : Euc (w.setCell ⟨g, 0, none⟩ (.int .u64 (n : Int))) g n b0 a1 b1 ev := by
  unfold Euc at h ⊢; simp [World.setCell, Array.getElem?_modify, h]
theorem Euc.s1 (h : Euc w g a0 b0 a1 b1 ev) (n : Nat) : Euc (w.setCell ⟨g, 1, none⟩ (.int .u64 (n : Int))) g a0 n a1 b1 ev := by
  unfold Euc at h ⊢; simp [World.setCell, Array.getElem?_modify, h]
theorem Euc.s2 (h : Euc w g a0 b0 a1 b1 ev) (n : Nat) : Euc (w.setCell ⟨g, 2, none⟩ (.int .u64 (n : Int))) g a0 b0 n b1 ev := by
  unfold Euc at h ⊢; simp [World.setCell, Array.getElem?_modify, h]
theorem Euc.s3 (h : Euc w g a0 b0 a1 b1 ev) (n : Nat) : Euc (w.setCell ⟨g, 3, none⟩ (.int .u64 (n : Int))) g a0 b0 a1 n ev := by
  unfold Euc at h ⊢; simp [World.setCell, Array.getElem?_modify, h]
theorem Euc.s4 (h : Euc w g a0 b0 a1 b1 ev) (n : Bool) : Euc (w.setCell ⟨g, 4, none⟩ (.bool n)) g a0 b0 a1 b1 n := by
  unfold Euc at h ⊢; simp [World.setCell, Array.getElem?_modify, h]
end
/-- What the steps return. -/
def eucV (a0 b0 a1 b1 : Nat) (ev : Bool) : Value := .agg #[.int .u64 (a0 : Int), .int .u64 (b0 : Int), .int .u64 (a1 : Int), .int .u64 (b1 : Int), .bool ev]

def StepsPost (w : World) (X Y : Int) (ah bh : Nat) (e : Ending) (w' : World) : Prop := ∃ a b a0 b0 a1 b1 na nb ev, e = .returned (eucV a0 b0 a1 b1 ev) ∧ M.Leh X Y ah bh a b a0 b0 a1 b1 na nb ev ∧ Below w.heap.size w w'
set_option maxHeartbeats 1600000 in
set_option maxRecDepth 100000 in
theorem steps_any {w : World} {X Y D xl yl : Int} (ah bh : Nat) (hab : bh ≤ ah) (ha : ah < 18446744073709551616) (hX : X = (ah : Int) * D + xl) (hY : Y = (bh : Int) * D + yl) (hx : 0 ≤ xl) (hxD : xl < D) (hy : 0 ≤ yl) (hyD : yl < D) :
    Calls Tryz.prog 207 #[.int .u64 (ah : Int), .int .u64 (bh : Int)] w (StepsPost w X Y ah bh) := by
  have H := Lib.hid (And.intro hX (And.intro hY (And.intro hx (And.intro hxD (And.intro hy (And.intro hyD hab))))))
  clear hX hY hx hxD hy hyD hab
  go_enter Tryz.func207, Tryz.ntmps207
  go_wp2_with fail
  have hz0 : Euc ((w.alloc (.cells #[.int .u64 0, .int .u64 0, .int .u64 0, .int .u64 0, .bool false] 218)).alloc (.cells #[.int .u64 0, .int .u64 0, .int .u64 1, .int .u64 0, .bool false] 218)) (w.heap.size + 1) 0 0 1 0 false := by
    have := heap_alloc_new (w.alloc (.cells #[.int .u64 0, .int .u64 0, .int .u64 0, .int .u64 0, .bool false] 218)) (.cells #[.int .u64 0, .int .u64 0, .int .u64 1, .int .u64 0, .bool false] 218)
    unfold Euc; simpa using this
  have hr0 : Euc ((w.alloc (.cells #[.int .u64 0, .int .u64 0, .int .u64 0, .int .u64 0, .bool false] 218)).alloc (.cells #[.int .u64 0, .int .u64 0, .int .u64 1, .int .u64 0, .bool false] 218)) w.heap.size 0 0 0 0 false := by
    have h1 := heap_alloc_new w (.cells #[.int .u64 0, .int .u64 0, .int .u64 0, .int .u64 0, .bool false] 218)
    have h2 : Euc (w.alloc (.cells #[.int .u64 0, .int .u64 0, .int .u64 0, .int .u64 0, .bool false] 218)) w.heap.size 0 0 0 0 false := h1
    exact h2.below ((Below.refl _ _).alloc (Nat.le_refl _) _) (by simp)
  have hb0 : Below w.heap.size w ((w.alloc (.cells #[.int .u64 0, .int .u64 0, .int .u64 0, .int .u64 0, .bool false] 218)).alloc (.cells #[.int .u64 0, .int .u64 0, .int .u64 1, .int .u64 0, .bool false] 218)) := ((Below.refl _ _).alloc (Nat.le_refl _) _).alloc (by simp) _
  generalize (w.alloc (.cells #[.int .u64 0, .int .u64 0, .int .u64 0, .int .u64 0, .bool false] 218)).alloc (.cells #[.int .u64 0, .int .u64 0, .int .u64 1, .int .u64 0, .bool false] 218) = w0 at *
  have H0 := Lib.hid (And.intro hz0 (And.intro hr0 hb0))
  clear hz0 hr0 hb0
  go_loopw [0, 1, 6, 7] (fun av bv nav nbv wr => ∃ (a b a0 b0 a1 b1 na nb : Nat) (ev : Bool), av = .int .u64 (a : Int) ∧ bv = .int .u64 (b : Int) ∧ nav = .int .u64 (na : Int) ∧ nbv = .int .u64 (nb : Int) ∧ Euc wr (w.heap.size + 1) a0 b0 a1 b1 ev ∧ Euc wr w.heap.size 0 0 0 0 false ∧ M.Leh X Y ah bh a b a0 b0 a1 b1 na nb ev ∧ Below w.heap.size w wr) (fun _ bv _ _ _ => (intOf bv).toNat)
  case atStart => exact ⟨ah, bh, 0, 0, 1, 0, 0, 1, false, rfl, rfl, rfl, rfl, H0.out.1, H0.out.2.1, M.Leh.start X Y H.out.2.2.2.2.2.2, H0.out.2.2⟩
  case round =>
    obtain ⟨a, b, a0, b0, a1, b1, na, nb, ev, rfl, rfl, rfl, rfl, he, hr, hL, hbl⟩ := hrel
    have e0 := he.c0
    have e1 := he.c1
    have e2 := he.c2
    have e3 := he.c3
    have e4 := he.c4
    have f0 := he.f 0
    have f1 := he.f 1
    have f2 := he.f 2
    have f3 := he.f 3
    have f4 := he.f 4
    have r0 := hr.c0
    have r1 := hr.c1
    have r2 := hr.c2
    have r3 := hr.c3
    have r4 := hr.c4
    have g0 := hr.f 0
    have g1 := hr.f 1
    have g2 := hr.f 2
    have g3 := hr.f 3
    have g4 := hr.f 4
    have hba := hL.ba
    have HE := Lib.hid (And.intro he (And.intro hr (And.intro hL hbl)))
    by_cases h1 : nb ≤ b
    · obtain ⟨k1, k2, k3, k4, k5⟩ := hL.fits h1
      by_cases h2 : b1 + nb ≤ a - b
      · obtain ⟨q, hq⟩ : ∃ q, q = a / b := ⟨_, rfl⟩
        obtain ⟨r, hrr⟩ : ∃ r, r = a % b := ⟨_, rfl⟩
        have hb1 : 1 ≤ b := by have := hL.one; omega
        have hrb : r < b := by rw [hrr]; exact Nat.mod_lt _ (by omega)
        have S := hL.step H.out.1 H.out.2.1 H.out.2.2.1 H.out.2.2.2.1 H.out.2.2.2.2.1 H.out.2.2.2.2.2.1 h1 h2
        rw [← hq, ← hrr] at S
        rw [← hq] at k2 k3
        obtain ⟨m1, hm1⟩ : ∃ m1, m1 = q * na := ⟨_, rfl⟩
        obtain ⟨m2, hm2⟩ : ∃ m2, m2 = q * nb := ⟨_, rfl⟩
        rw [← hm1, ← hm2] at S
        rw [← hm1, ← hm2] at k3
        rw [← hm2] at k2
        obtain ⟨n1, hn1⟩ : ∃ n1, n1 = a1 + m1 := ⟨_, rfl⟩
        obtain ⟨n2, hn2⟩ : ∃ n2, n2 = b1 + m2 := ⟨_, rfl⟩
        rw [← hn1, ← hn2] at S
        have i1 : (a : Int) / (b : Int) = (q : Int) := by rw [hq]; rfl
        have i2 : (a : Int) % (b : Int) = (r : Int) := by rw [hrr]; rfl
        have i3 : (q : Int) * (na : Int) = (m1 : Int) := by rw [hm1]; rfl
        have i4 : (q : Int) * (nb : Int) = (m2 : Int) := by rw [hm2]; rfl
        have i5 : (a1 : Int) + (m1 : Int) = (n1 : Int) := by omega
        have i6 : (b1 : Int) + (m2 : Int) = (n2 : Int) := by omega
        have l1 : m1 ≤ 18446744073709551615 := by omega
        have l2 : m2 ≤ 18446744073709551615 := by omega
        have l3 : n1 ≤ 18446744073709551615 := by omega
        have l4 : n2 ≤ 18446744073709551615 := by omega
        have l5 : q ≤ 18446744073709551615 := by have := Nat.div_le_self a b; omega
        have t1 : (nb : Int) ≤ (b : Int) := by omega
        have t2 : (b1 : Int) + (nb : Int) ≤ (a : Int) - (b : Int) := by omega
        have t3 : ¬ (b : Int) = 0 := by omega
        have HS := Lib.hid (And.intro S hrb)
        clear he hr hL hbl h1 h2 hq hrr S hm1 hm2 hn1 hn2 k1 k2 k3 hrb
        go_wp2_with fail
        go_quiet (fail)
        have he2 := HE.out.1.drewN nq
        have hr2 := HE.out.2.1.drewN nq
        have hb2 : Below w.heap.size w (wr.drewN nq) := HE.out.2.2.2.trans (((Drawn.refl wr).drewN nq).below w.heap.size)
        clear e0 e1 e2 e3 e4 f0 f1 f2 f3 f4 r0 r1 r2 r3 r4 g0 g1 g2 g3 g4
        generalize wr.drewN nq = w2 at *
        have e0 := he2.c0
        have e1 := he2.c1
        have e2 := he2.c2
        have e3 := he2.c3
        have e4 := he2.c4
        have f0 := he2.f 0
        have f1 := he2.f 1
        have f2 := he2.f 2
        have f3 := he2.f 3
        have f4 := he2.f 4
        have HE2 := Lib.hid (And.intro he2 (And.intro hr2 hb2))
        clear he2 hr2 hb2
        go_wp2
        go_roundw
        case rel =>
          have R := (((((HE2.out.1.s0 a1).s2 na).s1 b1).s3 nb).s4 (!ev))
          have hB := ((((HE2.out.2.2.setCell (p := ⟨w.heap.size + 1, 0, none⟩) (by simp) (.int .u64 (a1 : Int))).setCell (p := ⟨w.heap.size + 1, 2, none⟩) (by simp) (.int .u64 (na : Int))).setCell (p := ⟨w.heap.size + 1, 1, none⟩) (by simp) (.int .u64 (b1 : Int))).setCell (p := ⟨w.heap.size + 1, 3, none⟩) (by simp) (.int .u64 (nb : Int))).setCell (p := ⟨w.heap.size + 1, 4, none⟩) (by simp) (.bool (!ev))
          have hR0 := ((((HE2.out.2.1.far (p := ⟨w.heap.size + 1, 0, none⟩) (by simp) (.int .u64 (a1 : Int))).far (p := ⟨w.heap.size + 1, 2, none⟩) (by simp) (.int .u64 (na : Int))).far (p := ⟨w.heap.size + 1, 1, none⟩) (by simp) (.int .u64 (b1 : Int))).far (p := ⟨w.heap.size + 1, 3, none⟩) (by simp) (.int .u64 (nb : Int))).far (p := ⟨w.heap.size + 1, 4, none⟩) (by simp) (.bool (!ev))
          exact ⟨b, r, a1, b1, na, nb, n1, n2, !ev, rfl, by rw [i2], rfl, rfl, R, hR0, HS.out.1, hB⟩
        case measure => have := HS.out.2; simp [intOf]; omega
      · have t1 : (nb : Int) ≤ (b : Int) := by omega
        have t2 : ¬ (b1 : Int) + (nb : Int) ≤ (a : Int) - (b : Int) := by omega
        clear he hr hL hbl h1 h2
        go_wp2
        have R := ((((HE.out.2.1.s0 a0).s1 b0).s2 a1).s3 b1).s4 ev
        have hB := ((((HE.out.2.2.2.setCell (p := ⟨w.heap.size, 0, none⟩) (Nat.le_refl _) (.int .u64 (a0 : Int))).setCell (p := ⟨w.heap.size, 1, none⟩) (Nat.le_refl _) (.int .u64 (b0 : Int))).setCell (p := ⟨w.heap.size, 2, none⟩) (Nat.le_refl _) (.int .u64 (a1 : Int))).setCell (p := ⟨w.heap.size, 3, none⟩) (Nat.le_refl _) (.int .u64 (b1 : Int))).setCell (p := ⟨w.heap.size, 4, none⟩) (Nat.le_refl _) (.bool ev)
        generalize ((((wr.setCell ⟨w.heap.size, 0, none⟩ (.int .u64 (a0 : Int))).setCell ⟨w.heap.size, 1, none⟩ (.int .u64 (b0 : Int))).setCell ⟨w.heap.size, 2, none⟩ (.int .u64 (a1 : Int))).setCell ⟨w.heap.size, 3, none⟩ (.int .u64 (b1 : Int))).setCell ⟨w.heap.size, 4, none⟩ (.bool ev) = W3 at *
        have z0 := R.c0
        have z1 := R.c1
        have z2 := R.c2
        have z3 := R.c3
        have z4 := R.c4
        exact bodyPost_ret (v := eucV a0 b0 a1 b1 ev) (by simp [results, Tryz.results207, go_sem, z0, z1, z2, z3, z4, eucV]) rfl ⟨a, b, a0, b0, a1, b1, na, nb, ev, rfl, HE.out.2.2.1, hB⟩
    · have t1 : ¬ (nb : Int) ≤ (b : Int) := by omega
      clear he hr hL hbl h1
      go_wp2
      have R := ((((HE.out.2.1.s0 a0).s1 b0).s2 a1).s3 b1).s4 ev
      have hB := ((((HE.out.2.2.2.setCell (p := ⟨w.heap.size, 0, none⟩) (Nat.le_refl _) (.int .u64 (a0 : Int))).setCell (p := ⟨w.heap.size, 1, none⟩) (Nat.le_refl _) (.int .u64 (b0 : Int))).setCell (p := ⟨w.heap.size, 2, none⟩) (Nat.le_refl _) (.int .u64 (a1 : Int))).setCell (p := ⟨w.heap.size, 3, none⟩) (Nat.le_refl _) (.int .u64 (b1 : Int))).setCell (p := ⟨w.heap.size, 4, none⟩) (Nat.le_refl _) (.bool ev)
      generalize ((((wr.setCell ⟨w.heap.size, 0, none⟩ (.int .u64 (a0 : Int))).setCell ⟨w.heap.size, 1, none⟩ (.int .u64 (b0 : Int))).setCell ⟨w.heap.size, 2, none⟩ (.int .u64 (a1 : Int))).setCell ⟨w.heap.size, 3, none⟩ (.int .u64 (b1 : Int))).setCell ⟨w.heap.size, 4, none⟩ (.bool ev) = W3 at *
      have z0 := R.c0
      have z1 := R.c1
      have z2 := R.c2
      have z3 := R.c3
      have z4 := R.c4
      exact bodyPost_ret (v := eucV a0 b0 a1 b1 ev) (by simp [results, Tryz.results207, go_sem, z0, z1, z2, z3, z4, eucV]) rfl ⟨a, b, a0, b0, a1, b1, na, nb, ev, rfl, HE.out.2.2.1, hB⟩
end Go.Proofs.YtjghgbfagjhdgaaGreatDoor
namespace Go.Proofs.YtjghgbfagjhdgaaGreatDoor
open Go Go.RowKit

theorem le_limb {n : Nat} (h : n < M.B) : n ≤ 4294967295 := by rw [M.B_eq] at h; omega
def ApplyPost (w : World) (u v : Nat) (e : Ending) (w' : World) : Prop := ∃ s t, e = .returned (.tuple #[s, t]) ∧ IsNat w' s u ∧ IsNat w' t v ∧ Below w.heap.size w w'
set_option maxHeartbeats 1600000 in
set_option maxRecDepth 100000 in
theorem apply_even {w : World} {A A' : Option Addr} {l l' x y a0 b0 a1 b1 u v : Nat} (c c' : Nat) (hx : Limbs w A l x) (hy : Limbs w A' l' y) (G : M.Give x y a0 b0 a1 b1 true u v) (hl : l ≤ 60000) (hl' : l' ≤ 60000) :
    Calls Tryz.prog 209 #[eucV a0 b0 a1 b1 true, .slice A l c, .slice A' l' c'] w (ApplyPost w u v) := by
  have q0 := le_limb G.a0
  have q1 := le_limb G.b0
  have q2 := le_limb G.a1
  have q3 := le_limb G.b1
  have hu : (u : Int) = a0 * x - b0 * y := by have := G.hu; simpa [M.rho] using this
  have hv : (v : Int) = b1 * y - a1 * x := by have := G.hv; simpa [M.rho] using this
  have hyL : y < M.B ^ (max l l') := Nat.lt_of_lt_of_le hy.1 (M.pow_mono (Nat.le_max_right _ _))
  have huL : u < M.B ^ (max l l') := Nat.lt_of_le_of_lt G.le hyL
  have hvL : v < M.B ^ (max l' l) := by rw [Nat.max_comm]; exact Nat.lt_trans G.lt huL
  have H := Lib.hid (And.intro hx (And.intro hy (And.intro hu (And.intro hv (And.intro huL hvL)))))
  clear hx hy G hu hv huL hvL hyL
  unfold eucV
  go_enter Tryz.func209, Tryz.ntmps209
  go_wp2_with fail
  have hE : Euc (w.alloc (.cells #[.int .u64 (a0 : Int), .int .u64 (b0 : Int), .int .u64 (a1 : Int), .int .u64 (b1 : Int), .bool true] 218)) w.heap.size a0 b0 a1 b1 true := heap_alloc_new w _
  have hb0 : Below w.heap.size w (w.alloc (.cells #[.int .u64 (a0 : Int), .int .u64 (b0 : Int), .int .u64 (a1 : Int), .int .u64 (b1 : Int), .bool true] 218)) := (Below.refl _ _).alloc (Nat.le_refl _) _
  generalize w.alloc (.cells #[.int .u64 (a0 : Int), .int .u64 (b0 : Int), .int .u64 (a1 : Int), .int .u64 (b1 : Int), .bool true] 218) = w0 at *
  have hD : Euc w0.drew w.heap.size a0 b0 a1 b1 true := hE
  have hbD : Below w.heap.size w w0.drew := hb0.drew
  go_region_held3 (fun w' => w'.cell? ⟨w.heap.size, 0, none⟩ = some (.int .u64 (a0 : Int)) ∧ w'.cell? ⟨w.heap.size, 1, none⟩ = some (.int .u64 (b0 : Int)) ∧ w'.cell? ⟨w.heap.size, 2, none⟩ = some (.int .u64 (a1 : Int)) ∧ w'.cell? ⟨w.heap.size, 3, none⟩ = some (.int .u64 (b1 : Int)) ∧ Euc w' w.heap.size a0 b0 a1 b1 true)
    (first | exact ⟨k2.c0, k2.c1, k2.c2, k2.c3, k2⟩ | exact ⟨k1.c0, k1.c1, k1.c2, k1.c3, k1⟩ | exact ⟨hD.c0, hD.c1, hD.c2, hD.c3, hD⟩)
    (first
      | (go_at_call 230; go_split_ands; ((with_reducible refine (combine_nat c c' (H.out.1.below hbD (Nat.le_refl _)) (H.out.2.1.below hbD (Nat.le_refl _)) hl hl' q0 q1 H.out.2.2.1 H.out.2.2.2.2.1).mono ?_); rintro e w1 ⟨s, rfl, hs, hb1⟩; have k1 : Euc w1 w.heap.size a0 b0 a1 b1 true := Euc.below hD hb1 hD.lt; have HB1 := Lib.hid (And.intro hs (hbD.trans (hb1.mono hbD.size))); clear hs))
      | (go_at_call 230; go_split_ands; ((with_reducible refine (combine_nat c' c (H.out.2.1.below HB1.out.2 (Nat.le_refl _)) (H.out.1.below HB1.out.2 (Nat.le_refl _)) hl' hl q3 q2 H.out.2.2.2.1 H.out.2.2.2.2.2).mono ?_); rintro e w2 ⟨t, rfl, ht, hb2⟩; have k2 : Euc w2 w.heap.size a0 b0 a1 b1 true := Euc.below k1 hb2 k1.lt; have HB2 := Lib.hid (And.intro (HB1.out.1.below hb2 (Nat.le_refl _)) (And.intro ht (HB1.out.2.trans (hb2.mono HB1.out.2.size)))); clear ht)))
  go_wp2
  go_ret2
  exact ⟨s, t, rfl, HB2.out.1, HB2.out.2.1, HB2.out.2.2⟩
set_option maxHeartbeats 1600000 in
set_option maxRecDepth 100000 in
theorem apply_odd {w : World} {A A' : Option Addr} {l l' x y a0 b0 a1 b1 u v : Nat} (c c' : Nat) (hx : Limbs w A l x) (hy : Limbs w A' l' y) (G : M.Give x y a0 b0 a1 b1 false u v) (hl : l ≤ 60000) (hl' : l' ≤ 60000) :
    Calls Tryz.prog 209 #[eucV a0 b0 a1 b1 false, .slice A l c, .slice A' l' c'] w (ApplyPost w u v) := by
  have q0 := le_limb G.a0
  have q1 := le_limb G.b0
  have q2 := le_limb G.a1
  have q3 := le_limb G.b1
  have hu : (u : Int) = b0 * y - a0 * x := by have := G.hu; simpa [M.rho] using this
  have hv : (v : Int) = a1 * x - b1 * y := by have := G.hv; simpa [M.rho] using this
  have hyL : y < M.B ^ (max l l') := Nat.lt_of_lt_of_le hy.1 (M.pow_mono (Nat.le_max_right _ _))
  have huL : u < M.B ^ (max l l') := Nat.lt_of_le_of_lt G.le hyL
  have hvL : v < M.B ^ (max l l') := Nat.lt_trans G.lt huL
  rw [Nat.max_comm] at huL
  have H := Lib.hid (And.intro hx (And.intro hy (And.intro hu (And.intro hv (And.intro huL hvL)))))
  clear hx hy G hu hv huL hvL hyL
  unfold eucV
  go_enter Tryz.func209, Tryz.ntmps209
  go_wp2_with fail
  have hE : Euc (w.alloc (.cells #[.int .u64 (a0 : Int), .int .u64 (b0 : Int), .int .u64 (a1 : Int), .int .u64 (b1 : Int), .bool false] 218)) w.heap.size a0 b0 a1 b1 false := heap_alloc_new w _
  have hb0 : Below w.heap.size w (w.alloc (.cells #[.int .u64 (a0 : Int), .int .u64 (b0 : Int), .int .u64 (a1 : Int), .int .u64 (b1 : Int), .bool false] 218)) := (Below.refl _ _).alloc (Nat.le_refl _) _
  generalize w.alloc (.cells #[.int .u64 (a0 : Int), .int .u64 (b0 : Int), .int .u64 (a1 : Int), .int .u64 (b1 : Int), .bool false] 218) = w0 at *
  have hD : Euc w0.drew w.heap.size a0 b0 a1 b1 false := hE
  have hbD : Below w.heap.size w w0.drew := hb0.drew
  go_region_held3 (fun w' => w'.cell? ⟨w.heap.size, 0, none⟩ = some (.int .u64 (a0 : Int)) ∧ w'.cell? ⟨w.heap.size, 1, none⟩ = some (.int .u64 (b0 : Int)) ∧ w'.cell? ⟨w.heap.size, 2, none⟩ = some (.int .u64 (a1 : Int)) ∧ w'.cell? ⟨w.heap.size, 3, none⟩ = some (.int .u64 (b1 : Int)) ∧ Euc w' w.heap.size a0 b0 a1 b1 false)
    (first | exact ⟨k2.c0, k2.c1, k2.c2, k2.c3, k2⟩ | exact ⟨k1.c0, k1.c1, k1.c2, k1.c3, k1⟩ | exact ⟨hD.c0, hD.c1, hD.c2, hD.c3, hD⟩)
    (first
      | (go_at_call 230; go_split_ands; ((with_reducible refine (combine_nat c' c (H.out.2.1.below hbD (Nat.le_refl _)) (H.out.1.below hbD (Nat.le_refl _)) hl' hl q1 q0 H.out.2.2.1 H.out.2.2.2.2.1).mono ?_); rintro e w1 ⟨s, rfl, hs, hb1⟩; have k1 : Euc w1 w.heap.size a0 b0 a1 b1 false := Euc.below hD hb1 hD.lt; have HB1 := Lib.hid (And.intro hs (hbD.trans (hb1.mono hbD.size))); clear hs))
      | (go_at_call 230; go_split_ands; ((with_reducible refine (combine_nat c c' (H.out.1.below HB1.out.2 (Nat.le_refl _)) (H.out.2.1.below HB1.out.2 (Nat.le_refl _)) hl hl' q2 q3 H.out.2.2.2.1 H.out.2.2.2.2.2).mono ?_); rintro e w2 ⟨t, rfl, ht, hb2⟩; have k2 : Euc w2 w.heap.size a0 b0 a1 b1 false := Euc.below k1 hb2 k1.lt; have HB2 := Lib.hid (And.intro (HB1.out.1.below hb2 (Nat.le_refl _)) (And.intro ht (HB1.out.2.trans (hb2.mono HB1.out.2.size)))); clear ht)))
  go_wp2
  go_ret2
  exact ⟨s, t, rfl, HB2.out.1, HB2.out.2.1, HB2.out.2.2⟩
theorem apply_any {w : World} {A A' : Option Addr} {l l' x y a0 b0 a1 b1 u v : Nat} {ev : Bool} (c c' : Nat) (hx : Limbs w A l x) (hy : Limbs w A' l' y) (G : M.Give x y a0 b0 a1 b1 ev u v) (hl : l ≤ 60000) (hl' : l' ≤ 60000) :
    Calls Tryz.prog 209 #[eucV a0 b0 a1 b1 ev, .slice A l c, .slice A' l' c'] w (ApplyPost w u v) := by
  cases ev
  · exact apply_odd c c' hx hy G hl hl'
  · exact apply_even c c' hx hy G hl hl'
end Go.Proofs.YtjghgbfagjhdgaaGreatDoor
namespace Go.Proofs.YtjghgbfagjhdgaaGreatDoor
open Go Go.RowKit

set_option maxHeartbeats 400000 in
theorem gcd64_any {w : World} (a b : Nat) (ha : a < M.B * M.B) (hb : b < M.B * M.B) :
    Calls Tryz.prog 173 #[.int .u64 (a : Int), .int .u64 (b : Int)] w fun e w' => e = .returned (.int .u64 (Nat.gcd a b : Int)) ∧ Drawn w w' := by
  have H := Lib.hid (And.intro ha hb)
  clear ha hb
  go_enter Tryz.func173, Tryz.ntmps173
  go_wp2_with fail
  go_loopw [0, 1] (fun av bv wr => ∃ x y : Nat, av = .int .u64 (x : Int) ∧ bv = .int .u64 (y : Int) ∧ x < M.B * M.B ∧ y < M.B * M.B ∧ Nat.gcd x y = Nat.gcd a b ∧ Drawn w wr) (fun _ bv _ => (intOf bv).toNat)
  case atStart => exact ⟨a, b, rfl, rfl, H.out.1, H.out.2, rfl, Drawn.refl _⟩
  case round =>
    obtain ⟨x, y, rfl, rfl, hx, hy, hg, hd⟩ := hrel
    have HR := Lib.hid (And.intro hx (And.intro hy (And.intro hg hd)))
    clear hx hy hg hd
    by_cases h0 : y = 0
    · subst h0
      go_wp2
      go_ret
      refine ⟨?_, HR.out.2.2.2⟩
      rw [← HR.out.2.2.1, Nat.gcd_zero_right]
      rfl
    · have hy0 : 1 ≤ y := by omega
      have hne : ((y : Int) != 0) = true := by rw [bne_iff_ne]; omega
      have hz : ¬ (y : Int) = 0 := by omega
      clear h0
      go_wp2_with fail
      go_quiet (fail)
      go_wp2
      go_roundw
      case rel =>
        refine ⟨y, x % y, rfl, ?_, HR.out.2.1, ?_, ?_, HR.out.2.2.2.drewN _⟩
        · first | rfl | rw [tmod_nat]
        · exact Nat.lt_trans (Nat.mod_lt _ (by omega)) HR.out.2.1
        · rw [← HR.out.2.2.1, Nat.gcd_comm y, ← Nat.gcd_rec, Nat.gcd_comm]
      case measure =>
        simp only [intOf]
        have h1 := Int.emod_lt_of_pos (x : Int) (show (0 : Int) < y by omega)
        have h2 := Int.emod_nonneg (x : Int) (show (y : Int) ≠ 0 by omega)
        omega

theorem pow3 (m : Nat) : M.B * M.B * M.B ^ (m + 1) = M.B ^ (m + 3) := by
  have h := Nat.pow_add M.B (m + 1) 2
  rw [Nat.pow_two] at h
  rw [show m + 3 = m + 1 + 2 by omega, h]
  exact Nat.mul_comm _ _
/-- The pair that the loop holds. -/
structure GPair (w wr : World) (av bv : Value) (p q k G : Nat) : Prop where
  hp : IsNat wr av p
  hq : IsNat wr bv q
  le : q ≤ p
  lt : p < M.B ^ k
  gcd : Nat.gcd p q = G
  below : Below w.heap.size w wr
def GcdPost (w : World) (G : Nat) (e : Ending) (w' : World) : Prop := ∃ v, e = .returned v ∧ IsNat w' v G ∧ Below w.heap.size w w'

set_option maxHeartbeats 3200000 in
set_option maxRecDepth 100000 in
theorem gcd_nat {w : World} {a b : Value} {x y k : Nat} (ha : IsNat w a x) (hb : IsNat w b y) (hx : x < M.B ^ k) (hy : y < M.B ^ k) (hk1 : 1 ≤ k) (hk : k ≤ 29000) :
    Calls Tryz.prog 174 #[a, b] w (GcdPost w (Nat.gcd x y)) := by
  obtain ⟨G, hG⟩ : ∃ G, G = Nat.gcd x y := ⟨_, rfl⟩
  rw [← hG]
  have H := Lib.hid (And.intro ha (And.intro hb hG))
  obtain ⟨A, l, c, rfl⟩ := ha.shape
  obtain ⟨A', l', c', rfl⟩ := hb.shape
  clear ha hb hG
  rcases Nat.lt_or_ge x y with hxy | hxy
  focus
    have hc := cmp_lt hxy
    have HXY := Lib.hid hxy
    clear hxy
    go_enter Tryz.func174, Tryz.ntmps174
    go_wp2_with fail
    refine (compare_nat H.out.1 H.out.2.1 hx hy (by omega)).mono ?_
    rintro e w1 ⟨rfl, hd⟩
    obtain ⟨p, q, hP⟩ : ∃ p q, GPair w w1 (.slice A' l' c') (.slice A l c) p q k G := ⟨y, x, H.out.2.1.drawn hd, H.out.1.drawn hd, Nat.le_of_lt HXY.out, hy, by rw [Nat.gcd_comm]; exact H.out.2.2.symm, hd.below _⟩
    have HP := Lib.hid hP
    clear hd hP
    go_wp2_with fail
  rotate_left
  focus
    have hc := cmp_ge hxy
    have HXY := Lib.hid hxy
    clear hxy
    go_enter Tryz.func174, Tryz.ntmps174
    go_wp2_with fail
    refine (compare_nat H.out.1 H.out.2.1 hx hy (by omega)).mono ?_
    rintro e w1 ⟨rfl, hd⟩
    obtain ⟨p, q, hP⟩ : ∃ p q, GPair w w1 (.slice A l c) (.slice A' l' c') p q k G := ⟨x, y, H.out.1.drawn hd, H.out.2.1.drawn hd, HXY.out, hx, H.out.2.2.symm, hd.below _⟩
    have HP := Lib.hid hP
    clear hd hP
    go_wp2_with fail
  all_goals
    clear hc HXY H hx hy
    go_loopg [0, 1] (q) (fun g av bv wr => ∃ P : Nat, GPair w wr av bv P g k G)
    case atStart => exact ⟨p, HP.out⟩
    case round =>
      obtain ⟨P, hP⟩ := hrel
      obtain ⟨A1, l1, c1, rfl, hl1, hm1, hlk1, hlc1, hcm1⟩ := hP.hp.open_ hP.lt
      obtain ⟨A2, l2, c2, rfl, hl2, hm2, hlk2, hlc2, hcm2⟩ := hP.hq.open_ (Nat.lt_of_le_of_lt hP.le hP.lt)
      have HQ := Lib.hid hP
      have HL := Lib.hid (And.intro hl1 hl2)
      have HM := Lib.hid (And.intro hm1 hm2)
      clear hP hl1 hl2 hm1 hm2
      by_cases h3 : 3 ≤ l2
      · have ht : (2 : Int) < (l2 : Int) := by omega
        have hq0 : 0 < gk := by
          have h1 := HM.out.2.resolve_left (by omega)
          have := M.pow_pos (l2 - 1); omega
        have hll : l2 ≤ l1 := by
          have h1 := HM.out.2.resolve_left (by omega)
          have h2 : M.B ^ (l2 - 1) < M.B ^ l1 := Nat.lt_of_le_of_lt h1 (Nat.lt_of_le_of_lt HQ.out.le HL.out.1.1)
          rcases Nat.lt_or_ge (l2 - 1) l1 with h3 | h3
          · omega
          · have := M.pow_mono h3; omega
        obtain ⟨m, rfl⟩ : ∃ m, l1 = m + 3 := ⟨l1 - 3, by omega⟩
        have hnx : M.B ^ (m + 2) ≤ P := HM.out.1.resolve_left (by omega)
        have HN := Lib.hid (And.intro hq0 hnx)
        clear hq0 hll hnx h3
        go_wp2_with fail
        refine (leading_any c1 c2 HL.out.1 HL.out.2 HQ.out.le HN.out.2 (by omega) (by omega)).mono ?_
        rintro e w2 ⟨s, he, hs, hXs, hb2⟩
        obtain ⟨ah, hah⟩ : ∃ ah, ah = P * 2 ^ s / M.B ^ (m + 1) := ⟨_, rfl⟩
        obtain ⟨bh, hbh⟩ : ∃ bh, bh = gk * 2 ^ s / M.B ^ (m + 1) := ⟨_, rfl⟩
        rw [← hah, ← hbh] at he
        subst he
        have hBB : M.B * M.B = 18446744073709551616 := by rw [M.B_eq]
        have hab : bh ≤ ah := by rw [hah, hbh]; exact Nat.div_le_div_right (Nat.mul_le_mul_right _ HQ.out.le)
        have ha64 : ah < M.B * M.B := by
          rw [hah]
          refine (Nat.div_lt_iff_lt_mul (M.pow_pos _)).2 ?_
          rw [pow3]
          exact hXs
        have hXe : ((P * 2 ^ s : Nat) : Int) = (ah : Int) * ((M.B ^ (m + 1) : Nat) : Int) + ((P * 2 ^ s % M.B ^ (m + 1) : Nat) : Int) := by
          rw [hah, ← Int.natCast_mul, ← Int.natCast_add, Nat.mul_comm (P * 2 ^ s / _), Nat.div_add_mod]
        have hYe : ((gk * 2 ^ s : Nat) : Int) = (bh : Int) * ((M.B ^ (m + 1) : Nat) : Int) + ((gk * 2 ^ s % M.B ^ (m + 1) : Nat) : Int) := by
          rw [hbh, ← Int.natCast_mul, ← Int.natCast_add, Nat.mul_comm (gk * 2 ^ s / _), Nat.div_add_mod]
        have hst := fun w => steps_any (w := w) ah bh hab (by omega) hXe hYe (Int.natCast_nonneg _) (Int.ofNat_lt.2 (Nat.mod_lt _ (M.pow_pos (m + 1)))) (Int.natCast_nonneg _) (Int.ofNat_lt.2 (Nat.mod_lt _ (M.pow_pos (m + 1))))
        have HST := Lib.hid (And.intro hst (And.intro ha64 hb2))
        clear hs hXs hb2 hah hbh hBB hab ha64 hXe hYe hst
        go_wp2_with fail
        refine (HST.out.1 _).mono ?_
        rintro e w3 ⟨ea, eb, a0, b0, a1, b1, na, nb, ev, rfl, hLeh, hb3⟩
        unfold eucV
        have hb4 : Below w.heap.size w w3 := (HQ.out.below.trans (HST.out.2.2.mono HQ.out.below.size)).trans (hb3.mono (Nat.le_trans HQ.out.below.size HST.out.2.2.size))
        have HP3 := Lib.hid (And.intro ((HQ.out.hp.below HST.out.2.2 (Nat.le_refl _)).below hb3 (Nat.le_refl _)) (And.intro ((HQ.out.hq.below HST.out.2.2 (Nat.le_refl _)).below hb3 (Nat.le_refl _)) (And.intro ((HL.out.1.below HST.out.2.2 (Nat.le_refl _)).below hb3 (Nat.le_refl _)) ((HL.out.2.below HST.out.2.2 (Nat.le_refl _)).below hb3 (Nat.le_refl _)))))
        have HLE := Lib.hid hLeh
        clear hLeh hb3
        have hE4 : Euc (w3.alloc (.cells #[.int .u64 (a0 : Int), .int .u64 (b0 : Int), .int .u64 (a1 : Int), .int .u64 (b1 : Int), .bool ev] 218)) w3.heap.size a0 b0 a1 b1 ev := heap_alloc_new w3 _
        have hb5 : Below w3.heap.size w3 (w3.alloc (.cells #[.int .u64 (a0 : Int), .int .u64 (b0 : Int), .int .u64 (a1 : Int), .int .u64 (b1 : Int), .bool ev] 218)) := (Below.refl _ _).alloc (Nat.le_refl _) _
        have HE4 := Lib.hid (And.intro hE4 (And.intro hb5 (hb4.trans (hb5.mono hb4.size))))
        clear hE4 hb5 hb4
        by_cases hz : b0 = 0
        · subst hz
          go_wp2_with fail
          generalize w3.alloc (.cells #[.int .u64 (a0 : Int), .int .u64 0, .int .u64 (a1 : Int), .int .u64 (b1 : Int), .bool ev] 218) = w4 at *
          refine (divide_all (k := k) (HP3.out.1.below HE4.out.2.1 (Nat.le_refl _)) (HP3.out.2.1.below HE4.out.2.1 (Nat.le_refl _)) HQ.out.lt (Nat.lt_of_le_of_lt HQ.out.le HQ.out.lt) hk1 (by omega) HN.out.1).mono ?_
          rintro e w5 ⟨u, v, rfl, hu, hv, hb6⟩
          obtain ⟨Xu, lu, cu, rfl⟩ := hu.shape
          obtain ⟨Xv, lv, cv, rfl⟩ := hv.shape
          have HU := Lib.hid (And.intro hv (And.intro ((HP3.out.2.1.below HE4.out.2.1 (Nat.le_refl _)).below hb6 (Nat.le_refl _)) (HE4.out.2.2.trans (hb6.mono HE4.out.2.2.size))))
          clear hu hv hb6
          go_wp2
          go_roundg (P % gk)
          case measure => exact Nat.mod_lt _ HN.out.1
          case rel => exact ⟨gk, HU.out.2.1, HU.out.1, Nat.le_of_lt (Nat.mod_lt _ HN.out.1), Nat.lt_of_le_of_lt HQ.out.le HQ.out.lt, by rw [Nat.gcd_comm, ← Nat.gcd_rec, Nat.gcd_comm]; exact HQ.out.gcd, HU.out.2.2⟩
        · have hzz : ((b0 : Int) == 0) = false := by rw [beq_eq_false_iff_ne]; omega
          have HZ := Lib.hid hz
          clear hz
          go_wp2_with fail
          generalize w3.alloc (.cells #[.int .u64 (a0 : Int), .int .u64 (b0 : Int), .int .u64 (a1 : Int), .int .u64 (b1 : Int), .bool ev] 218) = w4 at *
          obtain ⟨u, v, hg⟩ := M.Leh.give (x := P) (y := gk) (t := 2 ^ s) HLE.out (Nat.pow_pos (by decide)) HZ.out HST.out.2.1
          have hap := apply_any (w := w4) c1 c2 (HP3.out.2.2.1.below HE4.out.2.1 (Nat.le_refl _)) (HP3.out.2.2.2.below HE4.out.2.1 (Nat.le_refl _)) hg (by omega) (by omega)
          have HG := Lib.hid hg
          unfold eucV at hap
          refine hap.mono ?_
          clear hap hg
          rintro e w5 ⟨s1, t1, rfl, hu, hv, hb6⟩
          obtain ⟨Xu, lu, cu, rfl⟩ := hu.shape
          obtain ⟨Xv, lv, cv, rfl⟩ := hv.shape
          have HU := Lib.hid (And.intro hu (And.intro hv (HE4.out.2.2.trans (hb6.mono HE4.out.2.2.size))))
          clear hu hv hb6
          go_wp2
          go_roundg v
          case measure => exact Nat.lt_of_lt_of_le HG.out.lt HG.out.le
          case rel => exact ⟨u, HU.out.1, HU.out.2.1, Nat.le_of_lt HG.out.lt, Nat.lt_of_le_of_lt (Nat.le_trans HG.out.le HQ.out.le) HQ.out.lt, by rw [HG.out.gcd]; exact HQ.out.gcd, HU.out.2.2⟩
      · have ht : ¬ (2 : Int) < (l2 : Int) := by omega
        by_cases h0 : l2 = 0
        · subst h0
          go_wp2
          go_ret
          refine ⟨_, rfl, ?_, HQ.out.below⟩
          have hz : gk = 0 := by have := HL.out.2.1; simpa using this
          have := HQ.out.gcd
          rw [hz, Nat.gcd_zero_right] at this
          rw [← this]
          exact HQ.out.hp
        · have hz : ((l2 : Int) == 0) = false := by rw [beq_eq_false_iff_ne]; omega
          go_wp2_with fail
          have hq0 : 0 < gk := by
            have h1 := HM.out.2.resolve_left h0
            have := M.pow_pos (l2 - 1); omega
          have HN := Lib.hid hq0
          clear hq0 h0
          refine (divide_all (k := k) HQ.out.hp HQ.out.hq HQ.out.lt (Nat.lt_of_le_of_lt HQ.out.le HQ.out.lt) hk1 (by omega) HN.out).mono ?_
          rintro e w5 ⟨u, v, rfl, hu, hv, hb6⟩
          obtain ⟨Xu, lu, cu, rfl⟩ := hu.shape
          obtain ⟨R, hR⟩ : ∃ R, R = P % gk := ⟨_, rfl⟩
          rw [← hR] at hv
          have hRq : R < gk := by rw [hR]; exact Nat.mod_lt _ HN.out
          have hq2 : gk < M.B ^ 2 := Nat.lt_of_lt_of_le HL.out.2.1 (M.pow_mono (by omega))
          obtain ⟨Xv, lv, cv, rfl, hv1, hvm, hvk, _, _⟩ := hv.open_ (show R < M.B ^ 2 by omega)
          have HU := Lib.hid (And.intro (HL.out.2.below hb6 (Nat.le_refl _)) (And.intro hv1 (HQ.out.below.trans (hb6.mono HQ.out.below.size))))
          have HR := Lib.hid (And.intro hR (And.intro hRq hq2))
          clear hu hv hb6 hv1 hvm hR hRq hq2
          go_wp2_with fail
          refine (word_any c2 HU.out.1 (by omega)).mono ?_
          rintro e w6 ⟨rfl, rfl⟩
          go_wp2_with fail
          refine (word_any cv HU.out.2.1 hvk).mono ?_
          rintro e w6 ⟨rfl, rfl⟩
          go_wp2_with fail
          have hB2 : M.B ^ 2 = M.B * M.B := Nat.pow_two _
          refine (gcd64_any gk R (by have := HR.out.2.2; omega) (by have := HR.out.2.2; have := HR.out.2.1; omega)).mono ?_
          clear hB2
          rintro e w6 ⟨rfl, hd6⟩
          have hGe : Nat.gcd gk R = G := by rw [HR.out.1, Nat.gcd_comm gk, ← Nat.gcd_rec, Nat.gcd_comm]; exact HQ.out.gcd
          have hGB : G < M.B * M.B := by
            rw [← hGe, ← Nat.pow_two]
            exact Nat.lt_of_le_of_lt (Nat.gcd_le_left R HN.out) HR.out.2.2
          rw [hGe]
          have HD := Lib.hid (And.intro hd6 hGB)
          clear hd6 hGe hGB
          go_wp2_with fail
          refine (natural64_any HD.out.2).mono ?_
          rintro e w7 ⟨v7, rfl, hv7, hb7⟩
          have HF := Lib.hid (And.intro hv7 ((HU.out.2.2.trans (HD.out.1.below w.heap.size)).trans (hb7.mono (Nat.le_trans HU.out.2.2.size (HD.out.1.below 0).size))))
          clear hv7 hb7
          go_wp2
          go_ret
          exact ⟨_, rfl, HF.out.1, HF.out.2⟩
end Go.Proofs.YtjghgbfagjhdgaaGreatDoor
