/- cmp.Compare at int, uint32; compare. -/
import Derived.Test.YthnbocojjllfaaaGreatDoorNatB
import Derived.WalkLawsBesides
namespace Go.Proofs.YthnbocojjllfaaaGreatDoor
open Go Go.RowKit

def cmpI (a b : Int) : Int := if a < b then -1 else if b < a then 1 else 0

theorem cmp_int (a b : Int) (w : World) : Calls Tryz.prog 89 #[.int .i64 a, .int .i64 b] w fun e w' => e = .returned (.int .i64 (cmpI a b)) ∧ w = w' := by
  rcases Int.lt_trichotomy a b with h | h | h
  · go_enter Tryz.func89, Tryz.ntmps89
    go_wp2
    go_ret
    exact ⟨by rw [cmpI, if_pos h]; rfl, rfl⟩
  · subst h
    go_enter Tryz.func89, Tryz.ntmps89
    go_wp2
    go_ret
    exact ⟨by rw [cmpI, if_neg (by omega), if_neg (by omega)]; rfl, rfl⟩
  · go_enter Tryz.func89, Tryz.ntmps89
    go_wp2
    go_ret
    exact ⟨by rw [cmpI, if_neg (by omega), if_pos h]; rfl, rfl⟩
theorem cmp_u32 (a b : Int) (w : World) : Calls Tryz.prog 171 #[.int .u32 a, .int .u32 b] w fun e w' => e = .returned (.int .i64 (cmpI a b)) ∧ w = w' := by
  rcases Int.lt_trichotomy a b with h | h | h
  · go_enter Tryz.func171, Tryz.ntmps171
    go_wp2
    go_ret
    exact ⟨by rw [cmpI, if_pos h]; rfl, rfl⟩
  · subst h
    go_enter Tryz.func171, Tryz.ntmps171
    go_wp2
    go_ret
    exact ⟨by rw [cmpI, if_neg (by omega), if_neg (by omega)]; rfl, rfl⟩
  · go_enter Tryz.func171, Tryz.ntmps171
    go_wp2
    go_ret
    exact ⟨by rw [cmpI, if_neg (by omega), if_pos h]; rfl, rfl⟩

theorem cmp_lens {l l' x y : Nat} (hx : x < M.B ^ l) (hy : y < M.B ^ l') (nx : l = 0 ∨ M.B ^ (l - 1) ≤ x) (ny : l' = 0 ∨ M.B ^ (l' - 1) ≤ y) (h : l ≠ l') : cmpI (l : Int) l' = cmpI (x : Int) y := by
  unfold cmpI
  rcases Nat.lt_or_ge l l' with h1 | h1
  · have h2 := M.pow_mono (show l ≤ l' - 1 by omega)
    have : x < y := by rcases ny with h3 | h3 <;> omega
    rw [if_pos (by omega), if_pos (by omega)]
  · have h2 := M.pow_mono (show l' ≤ l - 1 by omega)
    have : y < x := by rcases nx with h3 | h3 <;> omega
    rw [if_neg (by omega), if_pos (by omega), if_neg (by omega), if_pos (by omega)]
theorem div_lt_of {x y p : Nat} (h : x / p < y / p) : x < y := by
  rcases Nat.lt_or_ge x y with h1 | h1
  · exact h1
  · have := Nat.div_le_div_right (c := p) h1; omega
theorem cmp_at {x y i : Nat} (h : x / M.B ^ (i + 1) = y / M.B ^ (i + 1)) (hne : M.dg x i ≠ M.dg y i) : cmpI (M.dg x i : Int) (M.dg y i) = cmpI (x : Int) y := by
  have h1 := M.div_succ x i
  have h2 := M.div_succ y i
  unfold cmpI
  rw [h] at h1
  rcases Nat.lt_or_ge (M.dg x i) (M.dg y i) with h3 | h3
  · have : x < y := div_lt_of (p := M.B ^ i) (by omega)
    rw [if_pos (by omega), if_pos (by omega)]
  · have : y < x := div_lt_of (p := M.B ^ i) (by omega)
    rw [if_neg (by omega), if_pos (by omega), if_neg (by omega), if_pos (by omega)]
theorem cmp_go {x y i : Nat} (h : x / M.B ^ (i + 1) = y / M.B ^ (i + 1)) (he : M.dg x i = M.dg y i) : x / M.B ^ i = y / M.B ^ i := by
  rw [M.div_succ x i, M.div_succ y i, h, he]

/-- The world, but for some answers drawn. -/
def Drawn (w w' : World) : Prop := ∃ n, w' = w.drewN n
theorem Drawn.refl (w : World) : Drawn w w := ⟨0, rfl⟩
theorem Drawn.drewN {w w' : World} (h : Drawn w w') (k : Nat) : Drawn w (w'.drewN k) := by
  obtain ⟨n, rfl⟩ := h
  exact ⟨n + k, by rw [World.drewN_drewN]⟩
theorem Drawn.trans {a b c : World} (h : Drawn a b) (k : Drawn b c) : Drawn a c := by
  obtain ⟨n, rfl⟩ := k
  exact h.drewN n
theorem Limbs.drawn {w w' : World} {A : Option Addr} {len n : Nat} (h : Limbs w A len n) (hd : Drawn w w') : Limbs w' A len n := by
  obtain ⟨k, rfl⟩ := hd
  exact h
theorem Drawn.below {w w' : World} (h : Drawn w w') (B : Nat) : Below B w w' := by
  obtain ⟨k, rfl⟩ := h
  exact ⟨rfl, rfl, rfl, Nat.le_refl _, fun _ _ => rfl⟩
theorem Calls.quiet_left {P : Program} {f : FuncId} {args : Array Value} {w : World} {n : Nat} {v : Value}
    (h : Calls P f args (w.drewN n) fun e w' => e = .returned v ∧ w.drewN n = w') : Calls P f args (w.drewN n) fun e w'' => e = .returned v ∧ ∃ m, w'' = w.drewN m :=
  h.mono fun _ _ ⟨he, hm⟩ => ⟨he, n, hm.symm⟩

set_option maxHeartbeats 400000 in
set_option maxRecDepth 100000 in
theorem compare_any {w : World} {A A' : Option Addr} {l l' x y : Nat} (c c' : Nat) (hx : Limbs w A l x) (hy : Limbs w A' l' y) (nx : l = 0 ∨ M.B ^ (l - 1) ≤ x) (ny : l' = 0 ∨ M.B ^ (l' - 1) ≤ y) (hl : l ≤ 60000) (hl' : l' ≤ 60000) :
    Calls Tryz.prog 140 #[.slice A l c, .slice A' l' c'] w fun e w' => e = .returned (.int .i64 (cmpI x y)) ∧ Drawn w w' := by
  by_cases he : l = l'
  · subst he
    have H := Lib.hid (And.intro hx hy)
    clear hx hy nx ny
    go_enter Tryz.func140, Tryz.ntmps140
    go_wp2_with fail
    go_loopw [5] (fun iv wr => ∃ k, k ≤ l ∧ iv = .int .i64 ((k : Int) - 1) ∧ x / M.B ^ k = y / M.B ^ k ∧ Drawn w wr) (fun iv _ => (intOf iv + 1).toNat)
    case atStart => exact ⟨l, Nat.le_refl _, rfl, by rw [Nat.div_eq_of_lt H.out.1.1, Nat.div_eq_of_lt H.out.2.1], 0, rfl⟩
    case round =>
      obtain ⟨k, hk, rfl, hq, hdr⟩ := hrel
      by_cases h0 : k = 0
      · subst h0
        have hxy : x = y := by simpa using hq
        have HE := Lib.hid hxy
        clear hxy hq
        go_wp2
        go_ret
        exact ⟨by rw [HE.out, cmpI, if_neg (by omega), if_neg (by omega)]; rfl, hdr⟩
      · obtain ⟨j, rfl⟩ : ∃ j, k = j + 1 := ⟨k - 1, by omega⟩
        rw [show (((j + 1 : Nat) : Int) - 1) = (j : Int) by omega]
        obtain ⟨b, off, rfl, hb, hc⟩ := (H.out.1.drawn hdr).at_ (show j < l by omega)
        obtain ⟨b', off', rfl, hb', hc'⟩ := (H.out.2.drawn hdr).at_ (show j < l by omega)
        have hj := hc j (by omega)
        have hj' := hc' j (by omega)
        clear hc hc'
        have HQ := Lib.hid hq
        clear hq
        by_cases hd : M.dg x j = M.dg y j
        · have HD := Lib.hid hd
          rw [← hd] at hj'
          clear hd
          have hbn : ((M.dg x j : Int) != (M.dg x j : Int)) = false := by simp
          go_wp2_with fail
          go_quiet (fail)
          go_wp2
          go_roundw
          case rel => exact ⟨j, by omega, rfl, cmp_go HQ.out HD.out, hdr.drewN _⟩
          case measure => simp [intOf]
        · have hbn : ((M.dg x j : Int) != (M.dg y j : Int)) = true := by rw [bne_iff_ne]; omega
          have HC := Lib.hid (cmp_at HQ.out hd)
          clear hd
          go_wp2_with fail
          go_quiet (fail)
          have hdr2 := hdr.drewN nq
          have hj2 : (wr.drewN nq).cell? ⟨b, off + j, none⟩ = some (.int .u32 (M.dg x j : Int)) := hj
          have hj2' : (wr.drewN nq).cell? ⟨b', off' + j, none⟩ = some (.int .u32 (M.dg y j : Int)) := hj'
          clear hj hj'
          generalize wr.drewN nq = w2 at *
          go_wp2_with fail
          go_quiet ((go_at_call 171; exact Calls.quiet_left (cmp_u32 _ _ _)))
          go_wp2
          go_ret
          exact ⟨by rw [HC.out]; rfl, hdr2.drewN _⟩
  · have hbn : ((l : Int) != (l' : Int)) = true := by rw [bne_iff_ne]; omega
    have HC := Lib.hid (cmp_lens hx.1 hy.1 nx ny he)
    clear hx hy nx ny he
    go_enter Tryz.func140, Tryz.ntmps140
    go_wp2_with (go_at_call 89; refine (cmp_int _ _ _).mono ?_; rintro e w' ⟨rfl, rfl⟩)
    go_ret
    exact ⟨by rw [HC.out]; rfl, Drawn.refl _⟩
end Go.Proofs.YthnbocojjllfaaaGreatDoor
