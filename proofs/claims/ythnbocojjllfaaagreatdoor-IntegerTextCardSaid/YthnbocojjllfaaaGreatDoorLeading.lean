/- leading: the highest 64 bits of two numbers. -/
import Derived.Test.YthnbocojjllfaaaGreatDoorCombine
import Derived.Test.YthnbocojjllfaaaGreatDoorLong
import Derived.Test.YthnbocojjllfaaaGreatDoorRel
import Derived.IntWalk
namespace Go.Proofs.YthnbocojjllfaaaGreatDoor
open Go Go.RowKit

theorem or_high {t c s : Nat} (hc : c < 2 ^ s) (h1 : t * 2 ^ s + c < 18446744073709551616) : bits .or .u64 ((t * 2 ^ s : Nat) : Int) (c : Int) = ((t * 2 ^ s + c : Nat) : Int) := by
  have h := Nat.two_pow_add_eq_or_of_lt hc t
  rw [u64_or_nat _ _ (by omega) (by omega), Nat.mul_comm t, ← h]

/-- What an operation yields: this value. -/
def IsV (u : Value) : Value → World → Prop := fun v _ => v = u
/-- What the walk of leading's function reads. -/
structure AtW (w w' : World) (A : Option Addr) (l z g h n s : Nat) : Prop where
  hz : Limbs w' A l z
  cn : w'.cell? ⟨g, 0, none⟩ = some (.int .i64 (n : Int))
  cs : w'.cell? ⟨h, 0, none⟩ = some (.int .i64 (s : Int))
  hd : Drawn w w'
set_option linter.unusedSimpArgs false in
set_option maxHeartbeats 1600000 in
set_option maxRecDepth 100000 in
theorem at_any {w : World} {A : Option Addr} {l c g h m s z n : Nat} (hn : n = m + 3) (hz : Limbs w A l z) (hl : l ≤ 60000) (hm : m ≤ 60000) (hs : s < 32) (hzs : z * 2 ^ s < M.B ^ (m + 3))
    (cn : w.cell? ⟨g, 0, none⟩ = some (.int .i64 (n : Int))) (cs : w.cell? ⟨h, 0, none⟩ = some (.int .i64 (s : Int))) :
    Calls Tryz.prog 213 #[.slice A l c, .pointer (some ⟨g, 0, none⟩), .pointer (some ⟨h, 0, none⟩)] w fun e w' => e = .returned (.int .u64 ((z * 2 ^ s / M.B ^ (m + 1) : Nat) : Int)) ∧ Drawn w w' := by
  have hz3 : z < M.B ^ (m + 3) := Nat.lt_of_le_of_lt (Nat.le_mul_of_pos_right z (Nat.pow_pos (by decide))) hzs
  have hv := M.top_val hs hz3
  obtain ⟨n1, hn1⟩ : ∃ n1, n1 = m + 2 := ⟨_, rfl⟩
  obtain ⟨n2, hn2⟩ : ∃ n2, n2 = m + 1 := ⟨_, rfl⟩
  obtain ⟨n3, hn3⟩ : ∃ n3, n3 = m := ⟨_, rfl⟩
  rw [← hn1, ← hn2, ← hn3] at hv
  have b1 := M.dg_le z n1
  have b2 := M.dg_le z n2
  have b3 := M.dg_le z n3
  have hB : M.B ^ (m + 3) = M.B * M.B * M.B ^ (m + 1) := by rw [show m + 3 = (m + 1) + 1 + 1 by omega, M.pow_succ', M.pow_succ']; rw [Nat.mul_assoc, Nat.mul_comm]
  obtain ⟨R, hR⟩ : ∃ R, R = z * 2 ^ s / M.B ^ n2 := ⟨_, rfl⟩
  have hRb : R < 18446744073709551616 := by
    have h1 : z * 2 ^ s / M.B ^ (m + 1) < M.B * M.B := (Nat.div_lt_iff_lt_mul (M.pow_pos _)).2 (by rw [← hB]; exact hzs)
    rw [hR, hn2]
    have : M.B * M.B = 18446744073709551616 := by rw [M.B_eq]
    omega
  rw [← hR] at hv
  obtain ⟨t, ht⟩ : ∃ t, t = M.dg z n1 * M.B + M.dg z n2 := ⟨_, rfl⟩
  obtain ⟨k, hk⟩ : ∃ k, k = M.dg z n3 * 2 ^ s := ⟨_, rfl⟩
  rw [← ht, ← hk] at hv
  have h2 := two_pow_le hs
  have hkb : k ≤ 9223372034707292160 := by rw [hk]; exact Nat.le_trans (Nat.mul_le_mul b3 h2) (by omega)
  have hkc : k / M.B < 2 ^ s := by rw [hk]; have := shl_carry (k := 0) (s := s) (Nat.pow_pos (by decide)) b3; rwa [Nat.zero_add] at this
  obtain ⟨ts, hts⟩ : ∃ ts, ts = t * 2 ^ s := ⟨_, rfl⟩
  obtain ⟨kh, hkh⟩ : ∃ kh, kh = k / M.B := ⟨_, rfl⟩
  have hor := or_high (t := t) (c := kh) (s := s) (by rw [hkh]; exact hkc) (by rw [hkh, hv]; exact hRb)
  rw [← hts] at hor
  have hRe : ts + kh = R := by rw [hts, hkh]; exact hv
  rw [hRe] at hor
  have o1 : bits .or .u64 ((M.dg z n1 : Int) * 4294967296) (M.dg z n2 : Int) = (t : Int) := by rw [or_plain b1 b2, ht]
  have o2 : bits .or .u64 (IntKind.u64.wrap ((M.dg z n1 : Int) * 4294967296)) (M.dg z n2 : Int) = (t : Int) := by rw [or_wide b1 b2, ht]
  have w1 : IntKind.u64.wrap ((t : Int) * 2 ^ s) = (ts : Int) := by
    have e : ((t : Int) * 2 ^ s) = (ts : Int) := by rw [hts]; push_cast; rfl
    rw [e, IntKind.wrap_u64]; omega
  have w2 : IntKind.u64.wrap ((M.dg z n3 : Int) * 2 ^ s) = (k : Int) := by
    have e : ((M.dg z n3 : Int) * 2 ^ s) = (k : Int) := by rw [hk]; push_cast; rfl
    rw [e, IntKind.wrap_u64]; omega
  have w3 : (k : Int) / 4294967296 = (kh : Int) := by rw [cast_div, hkh]
  have e1 : IntKind.i64.wrap (n1 : Int) = (n1 : Int) := IntWalk.i64_in _ (by omega)
  have e2 : IntKind.i64.wrap (n2 : Int) = (n2 : Int) := IntWalk.i64_in _ (by omega)
  have e3 : IntKind.i64.wrap (n3 : Int) = (n3 : Int) := IntWalk.i64_in _ (by omega)
  have f1 : (n : Int) - 1 = (n1 : Int) := by omega
  have f2 : (n : Int) - 2 = (n2 : Int) := by omega
  have f3 : (n : Int) - 3 = (n3 : Int) := by omega
  have q1 : n1 ≤ 60002 := by omega
  have q2 : n2 ≤ 60001 := by omega
  have q3 : n3 ≤ 60000 := by omega
  have HR := Lib.hid (And.intro hR hn2)
  rw [show z * 2 ^ s / M.B ^ (m + 1) = R by rw [hR, hn2]]
  clear hz3 hv hn1 hn2 hn3 hB hR hRb ht hk hkb hkc hts hkh hRe hn hzs h2
  go_enter Tryz.func213, Tryz.ntmps213
  go_wp2_with fail
  refine Rel.region_full 21 [0, 1, 2, 3, 4, 5, 6, 7, 8, 9, 10, 11, 12, 13, 14, 15, 16, 17, 18, 19, 20] (R := [IsV (.slice A l c), IsV (.int .i64 (n : Int)), IsV (.int .i64 (n1 : Int)), IsV (.int .u64 (M.dg z n1 : Int)), IsV (.int .u64 (IntKind.u64.wrap ((M.dg z n1 : Int) * 4294967296))), IsV (.slice A l c), IsV (.int .i64 (n : Int)), IsV (.int .i64 (n2 : Int)), IsV (.int .u64 (M.dg z n2 : Int)), IsV (.int .u64 (t : Int)), IsV (.int .i64 (s : Int)), IsV (.int .u64 (ts : Int)), IsV (.slice A l c), IsV (.int .i64 (n : Int)), IsV (.int .i64 (n3 : Int)), IsV (.int .u64 (M.dg z n3 : Int)), IsV (.int .i64 (s : Int)), IsV (.int .u64 (k : Int)), IsV (.int .u64 (kh : Int)), IsV (.int .u64 (R : Int)), IsV (.int .u64 (R : Int))])
    (E := fun _ w' => AtW w w' A l z g h n s) (T := fun a b => a = b) rfl rfl (by kernel_rfl) (by kernel_rfl) ⟨hz, cn, cs, (Drawn.refl w).drewN 1⟩ ?_ ?_ ?_
  · intro D i v w1 w2 hi hE hT hv
    subst hT
    exact hv
  · refine Rel.Steps.cons (L := []) rfl (by kernel_rfl) ?_ ?_
    · intro vals w' D hE hF hR K hK
      simp only [Rel.putL, Rel.dst, List.getElem?_toArray, List.getElem?_cons_zero, List.getElem?_cons_succ, Option.bind_some, Act.put, List.setIfInBounds_toArray, List.set_cons_zero, List.set_cons_succ] at hK ⊢
      go_simp
      exact hK _ _ rfl rfl (hE)
    refine Rel.Steps.cons (L := []) rfl (by kernel_rfl) ?_ ?_
    · intro vals w' D hE hF hR K hK
      have cn := hE.cn
      simp only [Rel.putL, Rel.dst, List.getElem?_toArray, List.getElem?_cons_zero, List.getElem?_cons_succ, Option.bind_some, Act.put, List.setIfInBounds_toArray, List.set_cons_zero, List.set_cons_succ] at hK ⊢
      go_simp
      exact hK _ _ rfl rfl (hE)
    refine Rel.Steps.cons (L := [1]) rfl (by kernel_rfl) ?_ ?_
    · intro vals w' D hE hF hR K hK
      have d1 : vals 1 = (.int .i64 (n : Int)) := hR.1
      simp only [Rel.putL, Rel.dst, List.getElem?_toArray, List.getElem?_cons_zero, List.getElem?_cons_succ, Option.bind_some, Act.put, List.setIfInBounds_toArray, List.set_cons_zero, List.set_cons_succ, d1] at hK ⊢
      go_simp
      exact hK _ _ rfl rfl (hE)
    refine Rel.Steps.cons (L := [0, 2]) rfl (by kernel_rfl) ?_ ?_
    · intro vals w' D hE hF hR K hK
      have d0 : vals 0 = (.slice A l c) := hR.1
      have d2 : vals 2 = (.int .i64 (n1 : Int)) := hR.2.1
      simp only [Rel.putL, Rel.dst, List.getElem?_toArray, List.getElem?_cons_zero, List.getElem?_cons_succ, Option.bind_some, Act.put, List.setIfInBounds_toArray, List.set_cons_zero, List.set_cons_succ, d0, d2] at hK ⊢
      go_simp
      go_at_call 169
      refine (limb_any c n1 hE.hz (by omega) (by omega)).mono ?_
      rintro e w2 ⟨rfl, rfl⟩
      exact hK _ _ rfl rfl hE
    refine Rel.Steps.cons (L := [3]) rfl (by kernel_rfl) ?_ ?_
    · intro vals w' D hE hF hR K hK
      have d3 : vals 3 = (.int .u64 (M.dg z n1 : Int)) := hR.1
      simp only [Rel.putL, Rel.dst, List.getElem?_toArray, List.getElem?_cons_zero, List.getElem?_cons_succ, Option.bind_some, Act.put, List.setIfInBounds_toArray, List.set_cons_zero, List.set_cons_succ, d3] at hK ⊢
      go_simp
      exact hK _ _ rfl rfl (hE)
    refine Rel.Steps.cons (L := []) rfl (by kernel_rfl) ?_ ?_
    · intro vals w' D hE hF hR K hK
      simp only [Rel.putL, Rel.dst, List.getElem?_toArray, List.getElem?_cons_zero, List.getElem?_cons_succ, Option.bind_some, Act.put, List.setIfInBounds_toArray, List.set_cons_zero, List.set_cons_succ] at hK ⊢
      go_simp
      exact hK _ _ rfl rfl (hE)
    refine Rel.Steps.cons (L := []) rfl (by kernel_rfl) ?_ ?_
    · intro vals w' D hE hF hR K hK
      have cn := hE.cn
      simp only [Rel.putL, Rel.dst, List.getElem?_toArray, List.getElem?_cons_zero, List.getElem?_cons_succ, Option.bind_some, Act.put, List.setIfInBounds_toArray, List.set_cons_zero, List.set_cons_succ] at hK ⊢
      go_simp
      exact hK _ _ rfl rfl (hE)
    refine Rel.Steps.cons (L := [6]) rfl (by kernel_rfl) ?_ ?_
    · intro vals w' D hE hF hR K hK
      have d6 : vals 6 = (.int .i64 (n : Int)) := hR.1
      simp only [Rel.putL, Rel.dst, List.getElem?_toArray, List.getElem?_cons_zero, List.getElem?_cons_succ, Option.bind_some, Act.put, List.setIfInBounds_toArray, List.set_cons_zero, List.set_cons_succ, d6] at hK ⊢
      go_simp
      exact hK _ _ rfl rfl (hE)
    refine Rel.Steps.cons (L := [5, 7]) rfl (by kernel_rfl) ?_ ?_
    · intro vals w' D hE hF hR K hK
      have d5 : vals 5 = (.slice A l c) := hR.1
      have d7 : vals 7 = (.int .i64 (n2 : Int)) := hR.2.1
      simp only [Rel.putL, Rel.dst, List.getElem?_toArray, List.getElem?_cons_zero, List.getElem?_cons_succ, Option.bind_some, Act.put, List.setIfInBounds_toArray, List.set_cons_zero, List.set_cons_succ, d5, d7] at hK ⊢
      go_simp
      go_at_call 169
      refine (limb_any c n2 hE.hz (by omega) (by omega)).mono ?_
      rintro e w2 ⟨rfl, rfl⟩
      exact hK _ _ rfl rfl hE
    refine Rel.Steps.cons (L := [4, 8]) rfl (by kernel_rfl) ?_ ?_
    · intro vals w' D hE hF hR K hK
      have d4 : vals 4 = (.int .u64 (IntKind.u64.wrap ((M.dg z n1 : Int) * 4294967296))) := hR.1
      have d8 : vals 8 = (.int .u64 (M.dg z n2 : Int)) := hR.2.1
      simp only [Rel.putL, Rel.dst, List.getElem?_toArray, List.getElem?_cons_zero, List.getElem?_cons_succ, Option.bind_some, Act.put, List.setIfInBounds_toArray, List.set_cons_zero, List.set_cons_succ, d4, d8] at hK ⊢
      go_simp
      exact hK _ _ rfl rfl (hE)
    refine Rel.Steps.cons (L := []) rfl (by kernel_rfl) ?_ ?_
    · intro vals w' D hE hF hR K hK
      have cs := hE.cs
      simp only [Rel.putL, Rel.dst, List.getElem?_toArray, List.getElem?_cons_zero, List.getElem?_cons_succ, Option.bind_some, Act.put, List.setIfInBounds_toArray, List.set_cons_zero, List.set_cons_succ] at hK ⊢
      go_simp
      exact hK _ _ rfl rfl (hE)
    refine Rel.Steps.cons (L := [9, 10]) rfl (by kernel_rfl) ?_ ?_
    · intro vals w' D hE hF hR K hK
      have d9 : vals 9 = (.int .u64 (t : Int)) := hR.1
      have d10 : vals 10 = (.int .i64 (s : Int)) := hR.2.1
      simp only [Rel.putL, Rel.dst, List.getElem?_toArray, List.getElem?_cons_zero, List.getElem?_cons_succ, Option.bind_some, Act.put, List.setIfInBounds_toArray, List.set_cons_zero, List.set_cons_succ, d9, d10] at hK ⊢
      go_simp
      exact hK _ _ rfl rfl (hE)
    refine Rel.Steps.cons (L := []) rfl (by kernel_rfl) ?_ ?_
    · intro vals w' D hE hF hR K hK
      simp only [Rel.putL, Rel.dst, List.getElem?_toArray, List.getElem?_cons_zero, List.getElem?_cons_succ, Option.bind_some, Act.put, List.setIfInBounds_toArray, List.set_cons_zero, List.set_cons_succ] at hK ⊢
      go_simp
      exact hK _ _ rfl rfl (hE)
    refine Rel.Steps.cons (L := []) rfl (by kernel_rfl) ?_ ?_
    · intro vals w' D hE hF hR K hK
      have cn := hE.cn
      simp only [Rel.putL, Rel.dst, List.getElem?_toArray, List.getElem?_cons_zero, List.getElem?_cons_succ, Option.bind_some, Act.put, List.setIfInBounds_toArray, List.set_cons_zero, List.set_cons_succ] at hK ⊢
      go_simp
      exact hK _ _ rfl rfl (hE)
    refine Rel.Steps.cons (L := [13]) rfl (by kernel_rfl) ?_ ?_
    · intro vals w' D hE hF hR K hK
      have d13 : vals 13 = (.int .i64 (n : Int)) := hR.1
      simp only [Rel.putL, Rel.dst, List.getElem?_toArray, List.getElem?_cons_zero, List.getElem?_cons_succ, Option.bind_some, Act.put, List.setIfInBounds_toArray, List.set_cons_zero, List.set_cons_succ, d13] at hK ⊢
      go_simp
      exact hK _ _ rfl rfl (hE)
    refine Rel.Steps.cons (L := [12, 14]) rfl (by kernel_rfl) ?_ ?_
    · intro vals w' D hE hF hR K hK
      have d12 : vals 12 = (.slice A l c) := hR.1
      have d14 : vals 14 = (.int .i64 (n3 : Int)) := hR.2.1
      simp only [Rel.putL, Rel.dst, List.getElem?_toArray, List.getElem?_cons_zero, List.getElem?_cons_succ, Option.bind_some, Act.put, List.setIfInBounds_toArray, List.set_cons_zero, List.set_cons_succ, d12, d14] at hK ⊢
      go_simp
      go_at_call 169
      refine (limb_any c n3 hE.hz (by omega) (by omega)).mono ?_
      rintro e w2 ⟨rfl, rfl⟩
      exact hK _ _ rfl rfl hE
    refine Rel.Steps.cons (L := []) rfl (by kernel_rfl) ?_ ?_
    · intro vals w' D hE hF hR K hK
      have cs := hE.cs
      simp only [Rel.putL, Rel.dst, List.getElem?_toArray, List.getElem?_cons_zero, List.getElem?_cons_succ, Option.bind_some, Act.put, List.setIfInBounds_toArray, List.set_cons_zero, List.set_cons_succ] at hK ⊢
      go_simp
      exact hK _ _ rfl rfl (hE)
    refine Rel.Steps.cons (L := [15, 16]) rfl (by kernel_rfl) ?_ ?_
    · intro vals w' D hE hF hR K hK
      have d15 : vals 15 = (.int .u64 (M.dg z n3 : Int)) := hR.1
      have d16 : vals 16 = (.int .i64 (s : Int)) := hR.2.1
      simp only [Rel.putL, Rel.dst, List.getElem?_toArray, List.getElem?_cons_zero, List.getElem?_cons_succ, Option.bind_some, Act.put, List.setIfInBounds_toArray, List.set_cons_zero, List.set_cons_succ, d15, d16] at hK ⊢
      go_simp
      exact hK _ _ rfl rfl (hE)
    refine Rel.Steps.cons (L := [17]) rfl (by kernel_rfl) ?_ ?_
    · intro vals w' D hE hF hR K hK
      have d17 : vals 17 = (.int .u64 (k : Int)) := hR.1
      simp only [Rel.putL, Rel.dst, List.getElem?_toArray, List.getElem?_cons_zero, List.getElem?_cons_succ, Option.bind_some, Act.put, List.setIfInBounds_toArray, List.set_cons_zero, List.set_cons_succ, d17] at hK ⊢
      go_simp
      exact hK _ _ rfl rfl (hE)
    refine Rel.Steps.cons (L := [11, 18]) rfl (by kernel_rfl) ?_ ?_
    · intro vals w' D hE hF hR K hK
      have d11 : vals 11 = (.int .u64 (ts : Int)) := hR.1
      have d18 : vals 18 = (.int .u64 (kh : Int)) := hR.2.1
      simp only [Rel.putL, Rel.dst, List.getElem?_toArray, List.getElem?_cons_zero, List.getElem?_cons_succ, Option.bind_some, Act.put, List.setIfInBounds_toArray, List.set_cons_zero, List.set_cons_succ, d11, d18] at hK ⊢
      go_simp
      exact hK _ _ rfl rfl (hE)
    refine Rel.Steps.cons (L := [19]) rfl (by kernel_rfl) ?_ ?_
    · intro vals w' D hE hF hR K hK
      have d19 : vals 19 = (.int .u64 (R : Int)) := hR.1
      simp only [Rel.putL, Rel.dst, List.getElem?_toArray, List.getElem?_cons_zero, List.getElem?_cons_succ, Option.bind_some, Act.put, List.setIfInBounds_toArray, List.set_cons_zero, List.set_cons_succ, d19] at hK ⊢
      go_simp
      exact hK _ _ rfl rfl (hE)
    exact Rel.Steps.done
  · intro vals w' D hD hE hR
    have d20 : vals 20 = _ := Rel.AllR.mem.1 hR 20 (by simp)
    simp only [Rel.putL, Rel.dst, List.getElem?_toArray, List.getElem?_cons_zero, List.getElem?_cons_succ, Option.bind_some, Act.put, List.setIfInBounds_toArray, List.set_cons_zero, List.set_cons_succ, d20]
    go_wp2
    go_ret
    exact ⟨rfl, hE.hd⟩
end Go.Proofs.YthnbocojjllfaaaGreatDoor
