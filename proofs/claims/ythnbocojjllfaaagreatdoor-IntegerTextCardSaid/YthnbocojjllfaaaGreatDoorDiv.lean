/- divide: by a greater number; by one limb. -/
import Derived.Test.YthnbocojjllfaaaGreatDoorNatG
namespace Go.Proofs.YthnbocojjllfaaaGreatDoor
open Go Go.RowKit

/-- What dividing x by y gives. -/
def DivPost (w : World) (x y : Nat) (e : Ending) (w' : World) : Prop :=
  ∃ u v, e = .returned (.tuple #[u, v]) ∧ IsNat w' u (x / y) ∧ IsNat w' v (x % y) ∧ Below w.heap.size w w'

set_option maxHeartbeats 800000 in
set_option maxRecDepth 100000 in
theorem divide_lt {w : World} {a b : Value} {x y k : Nat} (ha : IsNat w a x) (hb : IsNat w b y) (hx : x < M.B ^ k) (hy : y < M.B ^ k) (hk : k ≤ 30000) (hlt : x < y) :
    Calls Tryz.prog 157 #[a, b] w (DivPost w x y) := by
  have hc := cmp_lt hlt
  have H := Lib.hid (And.intro ha (And.intro hb hlt))
  obtain ⟨A, l, c, rfl⟩ := ha.shape
  obtain ⟨A', l', c', rfl⟩ := hb.shape
  clear ha hb hlt
  go_enter Tryz.func157, Tryz.ntmps157
  go_wp2_with fail
  refine (compare_nat H.out.1 H.out.2.1 hx hy hk).mono ?_
  rintro e w1 ⟨rfl, hd⟩
  go_wp2
  go_ret2
  refine ⟨_, _, rfl, ?_, ?_, hd.below _⟩
  · rw [Nat.div_eq_of_lt H.out.2.2]; exact IsNat.zero _
  · rw [Nat.mod_eq_of_lt H.out.2.2]; exact H.out.1.drawn hd

set_option maxHeartbeats 800000 in
set_option maxRecDepth 100000 in
theorem divide_one {w : World} {a b : Value} {x y k : Nat} (ha : IsNat w a x) (hb : IsNat w b y) (hx : x < M.B ^ k) (hy : y < M.B) (hk1 : 1 ≤ k) (hk : k ≤ 30000) (hyx : y ≤ x) (h0 : 0 < y) :
    Calls Tryz.prog 157 #[a, b] w (DivPost w x y) := by
  have hyk : y < M.B ^ k := Nat.lt_of_lt_of_le (by rw [Nat.pow_one]; exact hy) (M.pow_mono hk1)
  have hc := cmp_ge hyx
  obtain ⟨A, l, c, rfl, hl, hm, hlk, hlc, hcm⟩ := ha.open_ hx
  obtain ⟨A', l', c', rfl, hl', hm', hlk', _, _⟩ := hb.open_ (show y < M.B ^ 1 by rw [Nat.pow_one]; exact hy)
  have hzl := len_zero hm hl.1
  have hzl' := len_zero hm' hl'.1
  have hlpos : 0 < l := by have : ¬ l = 0 := fun e => by have := hzl.1 e; omega
                           omega
  have hl1 : l' = 1 := by have : ¬ l' = 0 := fun e => by have := hzl'.1 e; omega
                          omega
  subst hl1
  obtain ⟨b1, off1, rfl, hbl1, hx1⟩ := hl.2 hlpos
  obtain ⟨b2, off2, rfl, hbl2, hy1⟩ := hl'.2 (by omega)
  have hy0 := hy1 0 (by omega)
  rw [show M.dg y 0 = y by unfold M.dg; rw [Nat.pow_zero, Nat.div_one, Nat.mod_eq_of_lt hy]] at hy0
  have H := Lib.hid (And.intro ha (And.intro hb (And.intro hx1 (And.intro hl hy0))))
  have hmk := make_nat l (by omega)
  clear ha hb hl hl' hm hm' hzl hzl' hx1 hy1 hy0 hyx
  go_enter Tryz.func157, Tryz.ntmps157
  go_wp2_with fail
  refine (compare_nat H.out.1 H.out.2.1 hx hyk hk).mono ?_
  rintro e w1 ⟨rfl, hd⟩
  have hyc : w1.cell? ⟨b2, off2, none⟩ = some (.int .u32 (y : Int)) := by obtain ⟨n, rfl⟩ := hd; exact H.out.2.2.2.2
  have hs1 : w1.heap.size = w.heap.size := by obtain ⟨n, rfl⟩ := hd; rfl
  have hb2 : b2 < w1.heap.size := by omega
  have HD := Lib.hid (And.intro hd hs1)
  clear hd hs1
  obtain ⟨r, hrr⟩ : ∃ r, r = x % y := ⟨_, rfl⟩
  have hrB : r ≤ 4294967295 := by have := Nat.mod_lt x h0; rw [M.B_eq] at hy; omega
  have HRR := Lib.hid hrr
  clear hrr
  go_wp2_with fail
  have hrow := Row.new w1 l
  have hb3 : Below w1.heap.size w1 (w1.alloc (.cells (madeCells #[Value.int .u32 0] l) 160)) := (Below.refl _ _).alloc (Nat.le_refl _) _
  have hx3 : ∀ j, j < l → (w1.alloc (.cells (madeCells #[Value.int .u32 0] l) 160)).cell? ⟨b1, off1 + j, none⟩ = some (.int .u32 (M.dg x j)) := by
    intro j hj
    have h1 : w1.cell? ⟨b1, off1 + j, none⟩ = some (.int .u32 (M.dg x j)) := by obtain ⟨n, rfl⟩ := HD.out.1; exact H.out.2.2.1 j hj
    exact (hb3.cell (p := ⟨b1, off1 + j, none⟩) (by have := HD.out.2; simp; omega)).trans h1
  have H3 := Lib.hid (And.intro hrow (And.intro hb3 hx3))
  clear hrow hb3 hx3 hmk
  refine (setQuotient_any l c H3.out.1 H3.out.2.2 H.out.2.2.2.1.1 (.inl (by have := HD.out.2; omega)) h0 (by rw [M.B_eq] at hy; omega) (by omega)).mono ?_
  rw [← HRR.out]
  rintro e w4 ⟨rfl, hq4, hg4⟩
  have H4 := Lib.hid (And.intro hq4 (H3.out.2.1.grown hg4 H3.out.2.1.size (by intro k hk; injection hk with hk; omega)))
  clear hq4 hg4
  go_wp2_with fail
  refine (trim_any H4.out.1.limbs (Nat.le_refl _) (by omega)).mono ?_
  rintro e w5 ⟨u, rfl, hu, rfl⟩
  have H5 := Lib.hid hu
  clear hu
  go_wp2_with fail
  refine (natural64_any (n := r) (by rw [M.B_eq]; omega)).mono ?_
  rintro e w6 ⟨v, rfl, hv, hb6⟩
  have H6 := Lib.hid (And.intro hv (And.intro (H5.out.below hb6 (Nat.le_refl _)) ((HD.out.1.below w.heap.size).trans ((H4.out.2.trans (hb6.mono H4.out.2.size)).mono (by rw [HD.out.2]; exact Nat.le_refl _)))))
  clear hv hb6
  go_wp2
  go_ret2
  exact ⟨_, _, rfl, H6.out.2.1, by rw [← HRR.out]; exact H6.out.1, H6.out.2.2⟩
end Go.Proofs.YthnbocojjllfaaaGreatDoor
