/- What a wide.Int is; magnitude, short, limbs, signed, Make, Sign, Negated. -/
import Derived.Test.YthnbocojjllfaaaGreatDoorNatG
namespace Go.Proofs.YthnbocojjllfaaaGreatDoor
open Go Go.RowKit

/-- The word of an integer: itself where it is short, else its sign. -/
def wrd (z : Int) : Int := if z.natAbs ≤ 4611686018427387903 then z else sgn z
theorem wrd_short {z : Int} (h : z.natAbs ≤ 4611686018427387903) : wrd z = z := if_pos h
theorem wrd_long {z : Int} (h : ¬ z.natAbs ≤ 4611686018427387903) : wrd z = sgn z := if_neg h
theorem wrd_bounds (z : Int) : -4611686018427387903 ≤ wrd z ∧ wrd z ≤ 4611686018427387903 := by
  unfold wrd sgn; split <;> (try split) <;> (try split) <;> omega
theorem wrd_neg (z : Int) : wrd z < 0 ↔ z < 0 := by unfold wrd sgn; split <;> (try split) <;> (try split) <;> omega
theorem wrd_zero (z : Int) : wrd z = 0 ↔ z = 0 := by unfold wrd sgn; split <;> (try split) <;> (try split) <;> omega
theorem wrd_minus (z : Int) : wrd (-z) = -wrd z := by
  unfold wrd sgn
  rw [show (-z).natAbs = z.natAbs by omega]
  split
  · rfl
  · split <;> (try split) <;> (try split) <;> (try split) <;> omega

/-- The slice of an integer's limbs: none where it is short. -/
def Size (w : World) (A : Option Addr) (l c : Nat) (z : Int) : Prop :=
  (z.natAbs ≤ 4611686018427387903 → A = none ∧ l = 0 ∧ c = 0) ∧ (¬ z.natAbs ≤ 4611686018427387903 → 0 < l ∧ IsNat w (.slice A l c) z.natAbs)
/-- v is the integer z. -/
def IsInt (w : World) (v : Value) (z : Int) : Prop := ∃ A l c, v = .agg #[.int .i64 (wrd z), .slice A l c] ∧ Size w A l c z
theorem Size.keep {w w' : World} {A : Option Addr} {l c : Nat} {z : Int} (h : Size w A l c z) (hs : w.heap.size ≤ w'.heap.size) (hc : ∀ p : Addr, p.block < w.heap.size → w'.cell? p = w.cell? p) : Size w' A l c z :=
  ⟨h.1, fun hl => ⟨(h.2 hl).1, (h.2 hl).2.keep hs hc⟩⟩
theorem IsInt.keep {w w' : World} {v : Value} {z : Int} (h : IsInt w v z) (hs : w.heap.size ≤ w'.heap.size) (hc : ∀ p : Addr, p.block < w.heap.size → w'.cell? p = w.cell? p) : IsInt w' v z := by
  obtain ⟨A, l, c, e, hn⟩ := h
  exact ⟨A, l, c, e, hn.keep hs hc⟩
theorem IsInt.below {w w' : World} {v : Value} {z : Int} {B : Nat} (h : IsInt w v z) (hb : Below B w w') (hB : w.heap.size ≤ B) : IsInt w' v z :=
  h.keep hb.size fun _ hp => hb.cell (by omega)
theorem Size.below {w w' : World} {A : Option Addr} {l c : Nat} {z : Int} {B : Nat} (h : Size w A l c z) (hb : Below B w w') (hB : w.heap.size ≤ B) : Size w' A l c z :=
  h.keep hb.size fun _ hp => hb.cell (by omega)
theorem IsInt.drawn {w w' : World} {v : Value} {z : Int} (h : IsInt w v z) (hd : Drawn w w') : IsInt w' v z := h.below (hd.below w.heap.size) (Nat.le_refl _)
theorem Size.short (w : World) {z : Int} (h : z.natAbs ≤ 4611686018427387903) : Size w none 0 0 z := ⟨fun _ => ⟨rfl, rfl, rfl⟩, fun hn => absurd h hn⟩
theorem IsInt.short (w : World) {z : Int} (h : z.natAbs ≤ 4611686018427387903) : IsInt w (.agg #[.int .i64 z, .slice none 0 0]) z := ⟨none, 0, 0, by rw [wrd_short h], Size.short w h⟩
theorem IsInt.long {w : World} {A : Option Addr} {l c : Nat} {z s : Int} (h : ¬ z.natAbs ≤ 4611686018427387903) (hs : s = sgn z) (h0 : 0 < l) (hn : IsNat w (.slice A l c) z.natAbs) : IsInt w (.agg #[.int .i64 s, .slice A l c]) z :=
  ⟨A, l, c, by rw [wrd_long h, hs], fun h' => absurd h' h, fun _ => ⟨h0, hn⟩⟩

theorem magnitude_any {w : World} (z : Int) (h1 : -9223372036854775808 ≤ z) (h2 : z ≤ 9223372036854775807) :
    Calls Tryz.prog 144 #[.int .i64 z] w fun e w' => e = .returned (.int .u64 ((z.natAbs : Nat) : Int)) ∧ w = w' := by
  have e1 : z < 0 → IntKind.u64.wrap (-(IntKind.u64.wrap z)) = ((z.natAbs : Nat) : Int) := fun h => by rw [IntKind.wrap_u64, IntKind.wrap_u64]; omega
  have e2 : ¬ z < 0 → z = ((z.natAbs : Nat) : Int) := fun h => by omega
  by_cases h : z < 0
  · have HE := Lib.hid (e1 h)
    clear e1 e2
    go_enter Tryz.func144, Tryz.ntmps144
    go_wp2
    go_ret
    refine ⟨?_, rfl⟩
    rw [← HE.out]
    first | rfl | (rw [IntKind.wrap_u64, IntKind.wrap_u64]; congr 2; omega)
  · have HE := Lib.hid (e2 h)
    clear e1 e2
    have h0 : 0 ≤ z := by omega
    go_enter Tryz.func144, Tryz.ntmps144
    go_wp2
    go_ret
    exact ⟨congrArg (fun t => Ending.returned (.int .u64 t)) HE.out, rfl⟩

theorem short_yes {w : World} {v : Value} {z : Int} (h : IsInt w v z) (hz : z.natAbs ≤ 4611686018427387903) :
    Calls Tryz.prog 135 #[v] w fun e w' => e = .returned (.bool true) ∧ Below w.heap.size w w' := by
  obtain ⟨A, l, c, rfl, h1, _⟩ := h
  obtain ⟨rfl, rfl, rfl⟩ := h1 hz
  generalize wrd z = s
  clear hz h1
  go_enter Tryz.func135, Tryz.ntmps135
  go_wp2
  go_ret
  exact ⟨rfl, (Below.refl _ _).alloc (Nat.le_refl _) _⟩
theorem short_no {w : World} {v : Value} {z : Int} (h : IsInt w v z) (hz : ¬ z.natAbs ≤ 4611686018427387903) :
    Calls Tryz.prog 135 #[v] w fun e w' => e = .returned (.bool false) ∧ Below w.heap.size w w' := by
  obtain ⟨A, l, c, rfl, _, h1⟩ := h
  obtain ⟨h2, _⟩ := h1 hz
  have hb : ((l : Int) == 0) = false := beq_eq_false_iff_ne.2 (by omega)
  generalize wrd z = s
  clear hz h1
  go_enter Tryz.func135, Tryz.ntmps135
  go_wp2
  go_ret
  exact ⟨rfl, (Below.refl _ _).alloc (Nat.le_refl _) _⟩

set_option maxHeartbeats 400000 in
theorem limbs_any {w : World} {v : Value} {z : Int} (h : IsInt w v z) :
    Calls Tryz.prog 137 #[v] w fun e w' => ∃ s, e = .returned s ∧ IsNat w' s z.natAbs ∧ Below w.heap.size w w' := by
  by_cases hz : z.natAbs ≤ 4611686018427387903
  · have hz2 : z.natAbs < M.B * M.B := by rw [M.B_eq]; omega
    have H := Lib.hid (And.intro h hz)
    obtain ⟨A, l, c, rfl, h1, _⟩ := h
    obtain ⟨rfl, rfl, rfl⟩ := h1 hz
    have hw := wrd_short hz
    clear h1
    rw [hw] at H ⊢
    clear hw
    have b1 : -9223372036854775808 ≤ z := by omega
    have b2 : z ≤ 9223372036854775807 := by omega
    clear hz
    go_enter Tryz.func137, Tryz.ntmps137
    have hb0 : Below w.heap.size w (w.alloc (.cells #[.int .i64 z, .slice none 0 0] 81)) := (Below.refl _ _).alloc (Nat.le_refl _) _
    have hc0 : (w.alloc (.cells #[.int .i64 z, .slice none 0 0] 81)).cell? ⟨w.heap.size, 0, none⟩ = some (.int .i64 z) := by go_cell
    have hlt : w.heap.size < (w.alloc (.cells #[.int .i64 z, .slice none 0 0] 81)).heap.size := by simp
    have HB := Lib.hid (And.intro hb0 (And.intro hc0 hlt))
    clear hb0 hc0 hlt
    go_wp2_with fail
    refine (short_yes (H.out.1.below HB.out.1 (Nat.le_refl _)) H.out.2).mono ?_
    rintro e w1 ⟨rfl, hb1⟩
    have hc1 := (hb1.cell HB.out.2.2).trans HB.out.2.1
    have HB1 := Lib.hid (HB.out.1.trans (hb1.mono HB.out.1.size))
    clear hb1
    go_wp2_with fail
    refine (magnitude_any z b1 b2).mono ?_
    rintro e w2 ⟨rfl, rfl⟩
    go_wp2_with fail
    refine (natural64_any hz2).mono ?_
    rintro e w2 ⟨s, rfl, hs, hb2⟩
    go_wp2
    go_ret
    exact ⟨s, rfl, hs, HB1.out.trans (hb2.mono HB1.out.size)⟩
  · have H := Lib.hid (And.intro h hz)
    obtain ⟨A, l, c, rfl, _, h1⟩ := h
    have HN := Lib.hid (h1 hz).2
    clear h1 hz
    generalize hs : wrd z = s at *
    clear hs
    go_enter Tryz.func137, Tryz.ntmps137
    have hb0 : Below w.heap.size w (w.alloc (.cells #[.int .i64 s, .slice A l c] 81)) := (Below.refl _ _).alloc (Nat.le_refl _) _
    have hc0 : (w.alloc (.cells #[.int .i64 s, .slice A l c] 81)).cell? ⟨w.heap.size, 1, none⟩ = some (.slice A l c) := by go_cell
    have hlt : w.heap.size < (w.alloc (.cells #[.int .i64 s, .slice A l c] 81)).heap.size := by simp
    have HB := Lib.hid (And.intro hb0 (And.intro hc0 hlt))
    clear hb0 hc0 hlt
    go_wp2_with fail
    refine (short_no (H.out.1.below HB.out.1 (Nat.le_refl _)) H.out.2).mono ?_
    rintro e w1 ⟨rfl, hb1⟩
    have hc1 := (hb1.cell HB.out.2.2).trans HB.out.2.1
    have HB1 := Lib.hid (HB.out.1.trans (hb1.mono HB.out.1.size))
    clear hb1
    go_wp2
    go_ret
    exact ⟨_, rfl, HN.out.below HB1.out (Nat.le_refl _), HB1.out⟩

theorem sgn_wrd (z : Int) : cmpI (wrd z) 0 = sgn z := by
  unfold cmpI
  by_cases h : z < 0
  · rw [if_pos ((wrd_neg z).2 h), sgn, if_pos h]
  · have h1 : ¬ wrd z < 0 := fun e => h ((wrd_neg z).1 e)
    rw [if_neg h1, sgn, if_neg h]
    by_cases h0 : z = 0
    · have := (wrd_zero z).2 h0
      rw [if_neg (by omega), if_neg (by omega)]
    · have : ¬ wrd z = 0 := fun e => h0 ((wrd_zero z).1 e)
      rw [if_pos (by omega), if_pos (by omega)]
theorem sign_any {w : World} {v : Value} {z : Int} (h : IsInt w v z) :
    Calls Tryz.prog 111 #[v] w fun e w' => e = .returned (.int .i64 (sgn z)) ∧ Below w.heap.size w w' := by
  obtain ⟨A, l, c, rfl, _⟩ := h
  have E := Lib.hid (sgn_wrd z)
  generalize wrd z = s at *
  generalize sgn z = t at *
  go_enter Tryz.func111, Tryz.ntmps111
  go_wp2_with (go_at_call 89; refine (cmp_int _ _ _).mono ?_; rintro e w' ⟨rfl, rfl⟩)
  go_ret
  exact ⟨by rw [← E.out]; rfl, (Below.refl _ _).alloc (Nat.le_refl _) _⟩

theorem negated_any {w : World} {v : Value} {z : Int} (h : IsInt w v z) :
    Calls Tryz.prog 142 #[v] w fun e w' => ∃ v', e = .returned v' ∧ IsInt w' v' (-z) ∧ Below w.heap.size w w' := by
  obtain ⟨A, l, c, rfl, hs⟩ := h
  have hb := wrd_bounds z
  have hw : Size w A l c (-z) := by
    unfold Size at hs ⊢
    rw [show (-z).natAbs = z.natAbs by omega]
    exact hs
  have E := Lib.hid (And.intro (wrd_minus z) hw)
  clear hs hw
  generalize wrd z = s at *
  have b1 := hb.1
  have b2 := hb.2
  clear hb
  go_enter Tryz.func142, Tryz.ntmps142
  go_wp2
  refine bodyPost_ret (v := .agg #[.int .i64 (-s), .slice A l c]) (by simp [results, Tryz.results142, go_sem]) rfl ⟨_, rfl, ⟨A, l, c, by rw [E.out.1], ?_⟩, ?_⟩
  · exact E.out.2.below (((Below.refl _ _).alloc (Nat.le_refl _) _).alloc (by simp) _) (Nat.le_refl _)
  · exact ((Below.refl _ _).alloc (Nat.le_refl _) _).alloc (by simp) _
end Go.Proofs.YthnbocojjllfaaaGreatDoor
