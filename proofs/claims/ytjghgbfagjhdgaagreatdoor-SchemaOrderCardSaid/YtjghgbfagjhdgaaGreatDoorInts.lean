/- What a wide.Int is; magnitude, short, limbs, signed, Make, Sign, Negated. signed, Make. The table of powers of ten; strconv.FormatUint at base 10. -/
import Derived.Test.YtjghgbfagjhdgaaGreatDoorNats
import Derived.Test.YtjghgbfagjhdgaaGreatDoorShelf
import Derived.Lib.LaidTab
import Derived.Lib.ItoaMem
import Derived.Lib.Walk
namespace Go.Proofs.YtjghgbfagjhdgaaGreatDoor
open Go Go.RowKit

/-- The word of an integer: itself where it is short, else its sign. -/
def wrd (z : Int) : Int := if z.natAbs ≤ 4611686018427387903 then z else sgn z
theorem wrd_short {z : Int} (h : z.natAbs ≤ 4611686018427387903) : wrd z = z := if_pos h
theorem wrd_long {z : Int} (h : ¬ z.natAbs ≤ 4611686018427387903) : wrd z = sgn z := if_neg h
theorem wrd_bounds (z : Int) : -4611686018427387903 ≤ wrd z ∧ wrd z ≤ 4611686018427387903 := by
  unfold wrd sgn; split <;> (try split) <;> (try split) <;> omega
theorem wrd_neg (z : Int) : wrd z < 0 ↔ z < 0 := by unfold wrd sgn; split <;> (try split) <;> (try split) <;> omega
theorem wrd_zero (z : Int) : wrd z = 0 ↔ z = 0 := by unfold wrd sgn; split <;> (try split) <;> (try split) <;> omega
theorem wrd_minus (z : Int) : wrd (-z) = -wrd z := by
  unfold wrd sgn
  rw [show (-z).natAbs = z.natAbs by omega]
  split
  · rfl
  · split <;> (try split) <;> (try split) <;> (try split) <;> omega

/-- The slice of an integer's limbs: none where it is short. -/
def Size (w : World) (A : Option Addr) (l c : Nat) (z : Int) : Prop :=
  (z.natAbs ≤ 4611686018427387903 → A = none ∧ l = 0 ∧ c = 0) ∧ (¬ z.natAbs ≤ 4611686018427387903 → 0 < l ∧ IsNat w (.slice A l c) z.natAbs)
/-- v is the integer z. -/
def IsInt (w : World) (v : Value) (z : Int) : Prop := ∃ A l c, v = .agg #[.int .i64 (wrd z), .slice A l c] ∧ Size w A l c z
theorem Size.keep {w w' : World} {A : Option Addr} {l c : Nat} {z : Int} (h : Size w A l c z) (hs : w.heap.size ≤ w'.heap.size) (hc : ∀ p : Addr, p.block < w.heap.size → w'.cell? p = w.cell? p) : Size w' A l c z :=
  ⟨h.1, fun hl => ⟨(h.2 hl).1, (h.2 hl).2.keep hs hc⟩⟩
theorem IsInt.keep {w w' : World} {v : Value} {z : Int} (h : IsInt w v z) (hs : w.heap.size ≤ w'.heap.size) (hc : ∀ p : Addr, p.block < w.heap.size → w'.cell? p = w.cell? p) : IsInt w' v z := by
  obtain ⟨A, l, c, e, hn⟩ := h
  exact ⟨A, l, c, e, hn.keep hs hc⟩
theorem IsInt.below {w w' : World} {v : Value} {z : Int} {B : Nat} (h : IsInt w v z) (hb : Below B w w') (hB : w.heap.size ≤ B) : IsInt w' v z :=
  h.keep hb.size fun _ hp => hb.cell (by omega)
theorem Size.below {w w' : World} {A : Option Addr} {l c : Nat} {z : Int} {B : Nat} (h : Size w A l c z) (hb : Below B w w') (hB : w.heap.size ≤ B) : Size w' A l c z :=
  h.keep hb.size fun _ hp => hb.cell (by omega)
theorem IsInt.drawn {w w' : World} {v : Value} {z : Int} (h : IsInt w v z) (hd : Drawn w w') : IsInt w' v z := h.below (hd.below w.heap.size) (Nat.le_refl _)
theorem Size.short (w : World) {z : Int} (h : z.natAbs ≤ 4611686018427387903) : Size w none 0 0 z := ⟨fun _ => ⟨rfl, rfl, rfl⟩, fun hn => absurd h hn⟩
theorem IsInt.short (w : World) {z : Int} (h : z.natAbs ≤ 4611686018427387903) : IsInt w (.agg #[.int .i64 z, .slice none 0 0]) z := ⟨none, 0, 0, by rw [wrd_short h], Size.short w h⟩
theorem IsInt.long {w : World} {A : Option Addr} {l c : Nat} {z s : Int} (h : ¬ z.natAbs ≤ 4611686018427387903) (hs : s = sgn z) (h0 : 0 < l) (hn : IsNat w (.slice A l c) z.natAbs) : IsInt w (.agg #[.int .i64 s, .slice A l c]) z :=
  ⟨A, l, c, by rw [wrd_long h, hs], fun h' => absurd h' h, fun _ => ⟨h0, hn⟩⟩

theorem magnitude_any {w : World} (z : Int) (h1 : -9223372036854775808 ≤ z) (h2 : z ≤ 9223372036854775807) :
    Calls Tryz.prog 116 #[.int .i64 z] w fun e w' => e = .returned (.int .u64 ((z.natAbs : Nat) : Int)) ∧ w = w' := by
  have e1 : z < 0 → IntKind.u64.wrap (-(IntKind.u64.wrap z)) = ((z.natAbs : Nat) : Int) := fun h => by rw [IntKind.wrap_u64, IntKind.wrap_u64]; omega
  have e2 : ¬ z < 0 → z = ((z.natAbs : Nat) : Int) := fun h => by omega
  by_cases h : z < 0
  · have HE := Lib.hid (e1 h)
    clear e1 e2
    go_enter Tryz.func116, Tryz.ntmps116
    go_wp2
    go_ret
    refine ⟨?_, rfl⟩
    rw [← HE.out]
    first | rfl | (rw [IntKind.wrap_u64, IntKind.wrap_u64]; congr 2; omega)
  · have HE := Lib.hid (e2 h)
    clear e1 e2
    have h0 : 0 ≤ z := by omega
    go_enter Tryz.func116, Tryz.ntmps116
    go_wp2
    go_ret
    exact ⟨congrArg (fun t => Ending.returned (.int .u64 t)) HE.out, rfl⟩

theorem short_yes {w : World} {v : Value} {z : Int} (h : IsInt w v z) (hz : z.natAbs ≤ 4611686018427387903) :
    Calls Tryz.prog 117 #[v] w fun e w' => e = .returned (.bool true) ∧ Below w.heap.size w w' := by
  obtain ⟨A, l, c, rfl, h1, _⟩ := h
  obtain ⟨rfl, rfl, rfl⟩ := h1 hz
  generalize wrd z = s
  clear hz h1
  go_enter Tryz.func117, Tryz.ntmps117
  go_wp2
  go_ret
  exact ⟨rfl, (Below.refl _ _).alloc (Nat.le_refl _) _⟩
theorem short_no {w : World} {v : Value} {z : Int} (h : IsInt w v z) (hz : ¬ z.natAbs ≤ 4611686018427387903) :
    Calls Tryz.prog 117 #[v] w fun e w' => e = .returned (.bool false) ∧ Below w.heap.size w w' := by
  obtain ⟨A, l, c, rfl, _, h1⟩ := h
  obtain ⟨h2, _⟩ := h1 hz
  have hb : ((l : Int) == 0) = false := beq_eq_false_iff_ne.2 (by omega)
  generalize wrd z = s
  clear hz h1
  go_enter Tryz.func117, Tryz.ntmps117
  go_wp2
  go_ret
  exact ⟨rfl, (Below.refl _ _).alloc (Nat.le_refl _) _⟩

set_option maxHeartbeats 400000 in
theorem limbs_any {w : World} {v : Value} {z : Int} (h : IsInt w v z) :
    Calls Tryz.prog 119 #[v] w fun e w' => ∃ s, e = .returned s ∧ IsNat w' s z.natAbs ∧ Below w.heap.size w w' := by
  by_cases hz : z.natAbs ≤ 4611686018427387903
  · have hz2 : z.natAbs < M.B * M.B := by rw [M.B_eq]; omega
    have H := Lib.hid (And.intro h hz)
    obtain ⟨A, l, c, rfl, h1, _⟩ := h
    obtain ⟨rfl, rfl, rfl⟩ := h1 hz
    have hw := wrd_short hz
    clear h1
    rw [hw] at H ⊢
    clear hw
    have b1 : -9223372036854775808 ≤ z := by omega
    have b2 : z ≤ 9223372036854775807 := by omega
    clear hz
    go_enter Tryz.func119, Tryz.ntmps119
    have hb0 : Below w.heap.size w (w.alloc (.cells #[.int .i64 z, .slice none 0 0] 77)) := (Below.refl _ _).alloc (Nat.le_refl _) _
    have hc0 : (w.alloc (.cells #[.int .i64 z, .slice none 0 0] 77)).cell? ⟨w.heap.size, 0, none⟩ = some (.int .i64 z) := by go_cell
    have hlt : w.heap.size < (w.alloc (.cells #[.int .i64 z, .slice none 0 0] 77)).heap.size := by simp
    have HB := Lib.hid (And.intro hb0 (And.intro hc0 hlt))
    clear hb0 hc0 hlt
    go_wp2_with fail
    refine (short_yes (H.out.1.below HB.out.1 (Nat.le_refl _)) H.out.2).mono ?_
    rintro e w1 ⟨rfl, hb1⟩
    have hc1 := (hb1.cell HB.out.2.2).trans HB.out.2.1
    have HB1 := Lib.hid (HB.out.1.trans (hb1.mono HB.out.1.size))
    clear hb1
    go_wp2_with fail
    refine (magnitude_any z b1 b2).mono ?_
    rintro e w2 ⟨rfl, rfl⟩
    go_wp2_with fail
    refine (natural64_any hz2).mono ?_
    rintro e w2 ⟨s, rfl, hs, hb2⟩
    go_wp2
    go_ret
    exact ⟨s, rfl, hs, HB1.out.trans (hb2.mono HB1.out.size)⟩
  · have H := Lib.hid (And.intro h hz)
    obtain ⟨A, l, c, rfl, _, h1⟩ := h
    have HN := Lib.hid (h1 hz).2
    clear h1 hz
    generalize hs : wrd z = s at *
    clear hs
    go_enter Tryz.func119, Tryz.ntmps119
    have hb0 : Below w.heap.size w (w.alloc (.cells #[.int .i64 s, .slice A l c] 77)) := (Below.refl _ _).alloc (Nat.le_refl _) _
    have hc0 : (w.alloc (.cells #[.int .i64 s, .slice A l c] 77)).cell? ⟨w.heap.size, 1, none⟩ = some (.slice A l c) := by go_cell
    have hlt : w.heap.size < (w.alloc (.cells #[.int .i64 s, .slice A l c] 77)).heap.size := by simp
    have HB := Lib.hid (And.intro hb0 (And.intro hc0 hlt))
    clear hb0 hc0 hlt
    go_wp2_with fail
    refine (short_no (H.out.1.below HB.out.1 (Nat.le_refl _)) H.out.2).mono ?_
    rintro e w1 ⟨rfl, hb1⟩
    have hc1 := (hb1.cell HB.out.2.2).trans HB.out.2.1
    have HB1 := Lib.hid (HB.out.1.trans (hb1.mono HB.out.1.size))
    clear hb1
    go_wp2
    go_ret
    exact ⟨_, rfl, HN.out.below HB1.out (Nat.le_refl _), HB1.out⟩

theorem sgn_wrd (z : Int) : cmpI (wrd z) 0 = sgn z := by
  unfold cmpI
  by_cases h : z < 0
  · rw [if_pos ((wrd_neg z).2 h), sgn, if_pos h]
  · have h1 : ¬ wrd z < 0 := fun e => h ((wrd_neg z).1 e)
    rw [if_neg h1, sgn, if_neg h]
    by_cases h0 : z = 0
    · have := (wrd_zero z).2 h0
      rw [if_neg (by omega), if_neg (by omega)]
    · have : ¬ wrd z = 0 := fun e => h0 ((wrd_zero z).1 e)
      rw [if_pos (by omega), if_pos (by omega)]
theorem sign_any {w : World} {v : Value} {z : Int} (h : IsInt w v z) :
    Calls Tryz.prog 111 #[v] w fun e w' => e = .returned (.int .i64 (sgn z)) ∧ Below w.heap.size w w' := by
  obtain ⟨A, l, c, rfl, _⟩ := h
  have E := Lib.hid (sgn_wrd z)
  generalize wrd z = s at *
  generalize sgn z = t at *
  go_enter Tryz.func111, Tryz.ntmps111
  go_wp2_with (go_at_call 170; refine (cmp_int _ _ _).mono ?_; rintro e w' ⟨rfl, rfl⟩)
  go_ret
  exact ⟨by rw [← E.out]; rfl, (Below.refl _ _).alloc (Nat.le_refl _) _⟩

theorem negated_any {w : World} {v : Value} {z : Int} (h : IsInt w v z) :
    Calls Tryz.prog 48 #[v] w fun e w' => ∃ v', e = .returned v' ∧ IsInt w' v' (-z) ∧ Below w.heap.size w w' := by
  obtain ⟨A, l, c, rfl, hs⟩ := h
  have hb := wrd_bounds z
  have hw : Size w A l c (-z) := by
    unfold Size at hs ⊢
    rw [show (-z).natAbs = z.natAbs by omega]
    exact hs
  have E := Lib.hid (And.intro (wrd_minus z) hw)
  clear hs hw
  generalize wrd z = s at *
  have b1 := hb.1
  have b2 := hb.2
  clear hb
  go_enter Tryz.func48, Tryz.ntmps48
  go_wp2
  refine bodyPost_ret (v := .agg #[.int .i64 (-s), .slice A l c]) (by simp [results, Tryz.results48, go_sem]) rfl ⟨_, rfl, ⟨A, l, c, by rw [E.out.1], ?_⟩, ?_⟩
  · exact E.out.2.below (((Below.refl _ _).alloc (Nat.le_refl _) _).alloc (by simp) _) (Nat.le_refl _)
  · exact ((Below.refl _ _).alloc (Nat.le_refl _) _).alloc (by simp) _
end Go.Proofs.YtjghgbfagjhdgaaGreatDoor
namespace Go.Proofs.YtjghgbfagjhdgaaGreatDoor
open Go Go.RowKit

theorem below_cells {w0 w : World} {B : Nat} (h : Below B w0 w) : ∀ p : Addr, p.block < B → w.cell? p = w0.cell? p := fun _ hp => h.cell hp
/-- With a sign. -/
def withSign (neg : Bool) (n : Nat) : Int := if neg then -(n : Int) else (n : Int)
theorem withSign_abs (neg : Bool) (n : Nat) : (withSign neg n).natAbs = n := by unfold withSign; split <;> omega

set_option maxHeartbeats 800000 in
theorem signed_short {w : World} {s : Value} {n : Nat} (neg : Bool) (h : IsNat w s n) (hn : n ≤ 4611686018427387903) :
    Calls Tryz.prog 114 #[.bool neg, s] w fun e w' => e = .returned (.agg #[.int .i64 (withSign neg n), .slice none 0 0]) ∧ Below w.heap.size w w' := by
  have hn2 : n < M.B ^ 2 := by rw [show (2 : Nat) = 1 + 1 by rfl, M.pow_succ', Nat.pow_one, M.B_eq]; omega
  obtain ⟨A, l, c, rfl, hl, hm, hlk, hlc, hc⟩ := h.open_ hn2
  have hw := Lib.hid (word_eq hl.1 hlk)
  have H := Lib.hid (And.intro h hl)
  clear h hl hm hn2
  cases neg with
  | false =>
    rw [show withSign false n = (n : Int) by rfl]
    go_enter Tryz.func114, Tryz.ntmps114
    go_wp2_with fail
    refine (word_low c (H.out.2.below (B := w.heap.size) ?_ (Nat.le_refl _)) (by omega)).mono ?_
    · exact ((Below.refl _ _).alloc (Nat.le_refl _) _).alloc (by simp) _
    rw [hw.out]
    rintro e w1 ⟨rfl, rfl⟩
    go_wp2
    exact bodyPost_ret (v := .agg #[.int .i64 (n : Int), .slice none 0 0]) (by simp [results, Tryz.results114, go_sem]) rfl ⟨rfl, ((((Below.refl _ _).alloc (Nat.le_refl _) _).alloc (by simp) _))⟩
  | true =>
    rw [show withSign true n = -(n : Int) by rfl]
    go_enter Tryz.func114, Tryz.ntmps114
    go_wp2_with fail
    refine (word_low c (H.out.2.below (B := w.heap.size) ?_ (Nat.le_refl _)) (by omega)).mono ?_
    · exact ((Below.refl _ _).alloc (Nat.le_refl _) _).alloc (by simp) _
    rw [hw.out]
    rintro e w1 ⟨rfl, rfl⟩
    go_wp2
    exact bodyPost_ret (v := .agg #[.int .i64 (-(n : Int)), .slice none 0 0]) (by simp [results, Tryz.results114, go_sem]) rfl ⟨rfl, ((((Below.refl _ _).alloc (Nat.le_refl _) _).alloc (by simp) _))⟩

set_option maxHeartbeats 800000 in
theorem signed_two {w : World} {A : Option Addr} {l c n : Nat} (neg : Bool) (h : IsNat w (.slice A l c) n) (hl2 : l ≤ 2) (hn : ¬ n ≤ 4611686018427387903) :
    Calls Tryz.prog 114 #[.bool neg, .slice A l c] w fun e w' => e = .returned (.agg #[.int .i64 (if neg then -1 else 1), .slice A l c]) ∧ Below w.heap.size w w' := by
  have hl : Limbs w A l n := by obtain ⟨A', l', c', e, hl, _⟩ := h; injection e with e1 e2 e3; subst e1 e2 e3; exact hl
  have hw := Lib.hid (word_eq hl.1 hl2)
  have hn' : ¬ (n : Int) ≤ 4611686018427387903 := by omega
  have H := Lib.hid hl
  clear h hl hn
  cases neg with
  | false =>
    go_enter Tryz.func114, Tryz.ntmps114
    go_wp2_with fail
    refine (word_low c (H.out.below (B := w.heap.size) ?_ (Nat.le_refl _)) (by omega)).mono ?_
    · exact ((Below.refl _ _).alloc (Nat.le_refl _) _).alloc (by simp) _
    rw [hw.out]
    rintro e w1 ⟨rfl, rfl⟩
    go_wp2
    exact bodyPost_ret (v := .agg #[.int .i64 1, .slice A l c]) (by simp [results, Tryz.results114, go_sem]) rfl ⟨rfl, ((((Below.refl _ _).alloc (Nat.le_refl _) _).alloc (by simp) _))⟩
  | true =>
    go_enter Tryz.func114, Tryz.ntmps114
    go_wp2_with fail
    refine (word_low c (H.out.below (B := w.heap.size) ?_ (Nat.le_refl _)) (by omega)).mono ?_
    · exact ((Below.refl _ _).alloc (Nat.le_refl _) _).alloc (by simp) _
    rw [hw.out]
    rintro e w1 ⟨rfl, rfl⟩
    go_wp2
    exact bodyPost_ret (v := .agg #[.int .i64 (-1), .slice A l c]) (by simp [results, Tryz.results114, go_sem]) rfl ⟨rfl, ((((Below.refl _ _).alloc (Nat.le_refl _) _).alloc (by simp) _))⟩
set_option maxHeartbeats 800000 in
theorem signed_many {w : World} {A : Option Addr} {l c n : Nat} (neg : Bool) (h : IsNat w (.slice A l c) n) (hl2 : ¬ l ≤ 2) (hl6 : l ≤ 60000) :
    Calls Tryz.prog 114 #[.bool neg, .slice A l c] w fun e w' => e = .returned (.agg #[.int .i64 (if neg then -1 else 1), .slice A l c]) ∧ Below w.heap.size w w' := by
  have hl : Limbs w A l n := by obtain ⟨A', l', c', e, hl, _⟩ := h; injection e with e1 e2 e3; subst e1 e2 e3; exact hl
  have hn' : ¬ (l : Int) ≤ 2 := by omega
  have H := Lib.hid hl
  clear h hl hl2
  cases neg with
  | false =>
    go_enter Tryz.func114, Tryz.ntmps114
    go_wp2_with fail
    refine (word_low c (H.out.below (B := w.heap.size) ?_ (Nat.le_refl _)) (by omega)).mono ?_
    · exact ((Below.refl _ _).alloc (Nat.le_refl _) _).alloc (by simp) _
    rintro e w1 ⟨rfl, rfl⟩
    go_wp2
    exact bodyPost_ret (v := .agg #[.int .i64 1, .slice A l c]) (by simp [results, Tryz.results114, go_sem]) rfl ⟨rfl, ((((Below.refl _ _).alloc (Nat.le_refl _) _).alloc (by simp) _))⟩
  | true =>
    go_enter Tryz.func114, Tryz.ntmps114
    go_wp2_with fail
    refine (word_low c (H.out.below (B := w.heap.size) ?_ (Nat.le_refl _)) (by omega)).mono ?_
    · exact ((Below.refl _ _).alloc (Nat.le_refl _) _).alloc (by simp) _
    rintro e w1 ⟨rfl, rfl⟩
    go_wp2
    exact bodyPost_ret (v := .agg #[.int .i64 (-1), .slice A l c]) (by simp [results, Tryz.results114, go_sem]) rfl ⟨rfl, ((((Below.refl _ _).alloc (Nat.le_refl _) _).alloc (by simp) _))⟩

/-- A size with its sign. -/
theorem signed_any {w : World} {s : Value} {n k : Nat} (neg : Bool) (h : IsNat w s n) (hn : n < M.B ^ k) (hk : k ≤ 60000) :
    Calls Tryz.prog 114 #[.bool neg, s] w fun e w' => ∃ v, e = .returned v ∧ IsInt w' v (withSign neg n) ∧ Below w.heap.size w w' := by
  by_cases hs : n ≤ 4611686018427387903
  · refine (signed_short neg h hs).mono ?_
    rintro e w' ⟨rfl, hb⟩
    exact ⟨_, rfl, IsInt.short _ (by rw [withSign_abs]; exact hs), hb⟩
  · obtain ⟨A, l, c, rfl, hl, hm, hlk, hlc, hc⟩ := h.open_ hn
    have h0 : 0 < l := by
      have hz := len_zero hm hl.1
      have : ¬ l = 0 := fun e => by have := hz.1 e; omega
      omega
    have hsg : (if neg = true then (-1 : Int) else 1) = sgn (withSign neg n) := by
      unfold withSign sgn
      cases neg <;> simp <;> omega
    have fin : ∀ (e : Ending) (w' : World), (e = .returned (.agg #[.int .i64 (if neg then -1 else 1), .slice A l c]) ∧ Below w.heap.size w w') → ∃ v, e = .returned v ∧ IsInt w' v (withSign neg n) ∧ Below w.heap.size w w' := by
      rintro e w' ⟨rfl, hb⟩
      exact ⟨_, rfl, IsInt.long (by rw [withSign_abs]; exact hs) hsg h0 (by rw [withSign_abs]; exact h.below hb (Nat.le_refl _)), hb⟩
    by_cases hl2 : l ≤ 2
    · exact (signed_two neg h hl2 hs).mono fin
    · exact (signed_many neg h hl2 (by omega)).mono fin

/-- The place for an integer that the call has laid: block g. -/
structure Res (g : Nat) (w : World) : Prop where
  r : ∃ s A l c, w.heap[g]? = some (.cells #[.int .i64 s, .slice A l c] 77 (0, 0))
/-- The place g with an integer's two cells in it. -/
def setInt (w : World) (g : Nat) (s : Int) (A : Option Addr) (l c : Nat) : World := (w.setCell ⟨g, 0, none⟩ (.int .i64 s)).setCell ⟨g, 1, none⟩ (.slice A l c)
section
variable {g : Nat} {w w' : World}
theorem Res.lt (h : Res g w) : g < w.heap.size := by obtain ⟨b, A, l, c, e⟩ := h.r; exact lt_of_block e
theorem Res.new (w : World) : Res w.heap.size (w.alloc (.cells #[.int .i64 0, .slice none 0 0] 77)) := ⟨⟨_, _, _, _, heap_alloc_new w _⟩⟩
theorem Res.next (h : Res g w) {B : Nat} (hb : Below B w w') (hB : g < B) : Res g w' := by
  obtain ⟨b, A, l, c, e⟩ := h.r
  exact ⟨⟨b, A, l, c, (hb.block g hB).trans e⟩⟩
theorem Res.drew (h : Res g w) : Res g w.drew := ⟨h.r⟩
theorem Res.c0 (h : Res g w) : ∃ v, w.cell? ⟨g, 0, none⟩ = some v := by
  obtain ⟨b, A, l, c, e⟩ := h.r
  exact ⟨.int .i64 b, by simp [World.cell?, e]⟩
theorem Res.c1 (h : Res g w) : ∃ v, w.cell? ⟨g, 1, none⟩ = some v := by
  obtain ⟨b, A, l, c, e⟩ := h.r
  exact ⟨.slice A l c, by simp [World.cell?, e]⟩
theorem Res.f0 (h : Res g w) : w.frozen? ⟨g, 0, none⟩ = false := by
  obtain ⟨b, A, l, c, e⟩ := h.r
  simp [World.frozen?, e]
theorem Res.f1 (h : Res g w) : w.frozen? ⟨g, 1, none⟩ = false := by
  obtain ⟨b, A, l, c, e⟩ := h.r
  simp [World.frozen?, e]
theorem setInt_size (w : World) (g : Nat) (s : Int) (A : Option Addr) (l c : Nat) : (setInt w g s A l c).heap.size = w.heap.size := by simp [setInt, World.setCell]
theorem Res.putBlock (h : Res g w) (s : Int) (A : Option Addr) (l c : Nat) : (setInt w g s A l c).heap[g]? = some (.cells #[.int .i64 s, .slice A l c] 77 (0, 0)) := by
  obtain ⟨b', A', l', c', e⟩ := h.r
  simp [setInt, World.setCell, Array.getElem?_modify, e]
theorem Res.put (h : Res g w) (s : Int) (A : Option Addr) (l c : Nat) : Res g (setInt w g s A l c) := ⟨⟨_, _, _, _, h.putBlock s A l c⟩⟩
theorem Res.put0 (h : Res g w) (s : Int) (A : Option Addr) (l c : Nat) : (setInt w g s A l c).cell? ⟨g, 0, none⟩ = some (.int .i64 s) := by
  simp [World.cell?, h.putBlock s A l c]
theorem Res.put1 (h : Res g w) (s : Int) (A : Option Addr) (l c : Nat) : (setInt w g s A l c).cell? ⟨g, 1, none⟩ = some (.slice A l c) := by
  simp [World.cell?, h.putBlock s A l c]
theorem setInt_other (w : World) {g k : Nat} (hk : k ≠ g) (s : Int) (A : Option Addr) (l c : Nat) (i : Nat) : (setInt w g s A l c).cell? ⟨k, i, none⟩ = w.cell? ⟨k, i, none⟩ := by
  unfold setInt
  rw [World.cell?_setCell_other _ _ _ _ (by intro e; injection e with e1 _; exact hk e1.symm), World.cell?_setCell_other _ _ _ _ (by intro e; injection e with e1 _; exact hk e1.symm)]
theorem setInt_block (w : World) {g k : Nat} (hk : k ≠ g) (s : Int) (A : Option Addr) (l c : Nat) : (setInt w g s A l c).heap[k]? = w.heap[k]? := by
  unfold setInt
  rw [Below.heap_setCell _ _ _ _ (by simpa using hk), Below.heap_setCell _ _ _ _ (by simpa using hk)]
theorem setInt_below {w0 : World} {B : Nat} (h : Below B w0 w) (hg : B ≤ g) (s : Int) (A : Option Addr) (l c : Nat) : Below B w0 (setInt w g s A l c) := (h.setCell (by simpa using hg) _).setCell (by simpa using hg) _
/-- Limbs do not lie where the result lies. -/
theorem Res.nat (h : Res g w) {v : Value} {n : Nat} (hv : IsNat w v n) (s : Int) (A : Option Addr) (l c : Nat) : IsNat (setInt w g s A l c) v n := by
  obtain ⟨A1, l1, c1, e, ⟨hn, hl⟩, r⟩ := hv
  refine ⟨A1, l1, c1, e, ⟨hn, fun h0 => ?_⟩, r⟩
  obtain ⟨g', off, e2, hg, hc⟩ := hl h0
  obtain ⟨b', A', l', c', e3⟩ := h.r
  have hne : g' ≠ g := by
    intro e4
    subst e4
    have h5 := hc 0 h0
    simp only [World.cell?, e3] at h5
    have : ∀ (k : Nat) (x : Int), ([Value.int .i64 b', .slice A' l' c'] : List Value)[k]? ≠ some (Value.int .u32 x) := by
      intro k x
      match k with
      | 0 => simp
      | 1 => simp
      | k + 2 => simp
    simp at h5
    exact this _ _ h5
  refine ⟨g', off, e2, by rw [setInt_size]; exact hg, fun i hi => ?_⟩
  rw [setInt_other w hne s A l c]
  exact hc i hi
theorem Res.size (h : Res g w) {A1 : Option Addr} {l1 c1 : Nat} {z : Int} (hv : Size w A1 l1 c1 z) (s : Int) (A : Option Addr) (l c : Nat) : Size (setInt w g s A l c) A1 l1 c1 z :=
  ⟨hv.1, fun hl => ⟨(hv.2 hl).1, h.nat (hv.2 hl).2 s A l c⟩⟩
theorem Res.int (h : Res g w) {z : Int} {v : Value} (hv : IsInt w v z) (s : Int) (A : Option Addr) (l c : Nat) : IsInt (setInt w g s A l c) v z := by
  obtain ⟨A1, l1, c1, e, hs⟩ := hv
  exact ⟨A1, l1, c1, e, h.size hs s A l c⟩
end
theorem IsInt.shape {w : World} {v : Value} {z : Int} (h : IsInt w v z) : ∃ A l c, v = .agg #[.int .i64 (wrd z), .slice A l c] ∧ Size w A l c z := h
theorem IsInt.shape_s {w : World} {v : Value} {z s : Int} (h : IsInt w v z) (hs : s = wrd z) : ∃ A l c, v = .agg #[.int .i64 s, .slice A l c] ∧ Size w A l c z := by subst hs; exact h

set_option maxHeartbeats 400000 in
theorem make_any {w : World} {z : Int} (h1 : -9223372036854775808 ≤ z) (h2 : z ≤ 9223372036854775807) :
    Calls Tryz.prog 47 #[.int .i64 z] w fun e w' => ∃ v, e = .returned v ∧ IsInt w' v z ∧ Below w.heap.size w w' := by
  by_cases hs : z.natAbs ≤ 4611686018427387903
  · have HS := Lib.hid hs
    have b1 : -4611686018427387903 ≤ z := by omega
    have b2 : z ≤ 4611686018427387903 := by omega
    clear hs h1 h2
    go_enter Tryz.func47, Tryz.ntmps47
    go_wp2
    exact bodyPost_ret (v := .agg #[.int .i64 z, .slice none 0 0]) (by simp [results, Tryz.results47, go_sem]) rfl ⟨_, rfl, IsInt.short _ HS.out, (Below.refl _ _).alloc (Nat.le_refl _) _⟩
  · have hm := fun w => magnitude_any (w := w) z h1 h2
    have hn2 : z.natAbs < M.B ^ 2 := by rw [show (2 : Nat) = 1 + 1 by rfl, M.pow_succ', Nat.pow_one, M.B_eq]; omega
    have hn3 : z.natAbs < M.B * M.B := by rw [M.B_eq]; omega
    have hz := withSign_abs
    have HM := Lib.hid (And.intro hm (And.intro hn2 (And.intro hn3 hs)))
    clear hm hn2 hn3 hs hz
    obtain ⟨s, hs⟩ : ∃ s, s = wrd z := ⟨_, rfl⟩
    have HS := Lib.hid hs
    clear hs
    by_cases hneg : z < 0
    · have hlt : ¬ -4611686018427387903 ≤ z := by have := HM.out.2.2.2; omega
      have HZ := Lib.hid (show withSign true z.natAbs = z by unfold withSign; simp; omega)
      go_enter Tryz.func47, Tryz.ntmps47
      have hb0 : Below w.heap.size w (w.alloc (.cells #[.int .i64 0, .slice none 0 0] 77)) := (Below.refl _ _).alloc (Nat.le_refl _) _
      have HR := Lib.hid (And.intro (Res.new w) hb0)
      clear hb0
      go_wp2_with fail
      generalize w.alloc (.cells #[.int .i64 0, .slice none 0 0] 77) = w0 at *
      refine (HM.out.1 _).mono ?_
      rintro e w1 ⟨rfl, rfl⟩
      go_wp2_with fail
      refine (natural64_any HM.out.2.2.1).mono ?_
      rintro e w1 ⟨u, rfl, hu, hb1⟩
      obtain ⟨A, l, c, rfl⟩ := hu.shape
      have H1 := Lib.hid (And.intro hu hb1)
      clear hu hb1
      go_wp2_with fail
      refine (signed_any true H1.out.1 HM.out.2.1 (by omega)).mono ?_
      rw [HZ.out]
      rintro e w2 ⟨v, rfl, hv, hb2⟩
      obtain ⟨A, l, c, rfl, hz⟩ := hv.shape_s HS.out
      have hR2 := (HR.out.1.next H1.out.2 HR.out.1.lt).next hb2 (Nat.lt_of_lt_of_le HR.out.1.lt H1.out.2.size)
      obtain ⟨v0, c0⟩ := hR2.c0
      obtain ⟨v1, c1⟩ := hR2.c1
      have f0 := hR2.f0
      have f1 := hR2.f1
      have hb3 : Below w.heap.size w w2 := (HR.out.2.trans (H1.out.2.mono HR.out.2.size)).trans (hb2.mono (Nat.le_trans HR.out.2.size H1.out.2.size))
      have HF := Lib.hid (And.intro (hR2.put0 s A l c) (And.intro (hR2.put1 s A l c) (And.intro (hR2.size hz s A l c) (setInt_below hb3 (Nat.le_refl _) s A l c))))
      clear hR2 hb2 hb3 hz
      go_wp2
      have hf := HF.out
      rw [show (w2.setCell ⟨w.heap.size, 0, none⟩ (.int .i64 s)).setCell ⟨w.heap.size, 1, none⟩ (.slice A l c) = setInt w2 w.heap.size s A l c from rfl]
      obtain ⟨z0, z1, z2, z3⟩ := hf
      generalize setInt w2 w.heap.size s A l c = W3 at *
      exact bodyPost_ret (v := .agg #[.int .i64 s, .slice A l c]) (by simp [results, Tryz.results47, go_sem, z0, z1]) rfl ⟨_, rfl, ⟨A, l, c, by rw [HS.out], z2⟩, z3⟩
    · have hge : -4611686018427387903 ≤ z := by omega
      have hlt : ¬ z ≤ 4611686018427387903 := by have := HM.out.2.2.2; omega
      have HZ := Lib.hid (show withSign false z.natAbs = z by unfold withSign; simp; omega)
      go_enter Tryz.func47, Tryz.ntmps47
      have hb0 : Below w.heap.size w (w.alloc (.cells #[.int .i64 0, .slice none 0 0] 77)) := (Below.refl _ _).alloc (Nat.le_refl _) _
      have HR := Lib.hid (And.intro (Res.new w) hb0)
      clear hb0
      go_wp2_with fail
      generalize w.alloc (.cells #[.int .i64 0, .slice none 0 0] 77) = w0 at *
      refine (HM.out.1 _).mono ?_
      rintro e w1 ⟨rfl, rfl⟩
      go_wp2_with fail
      refine (natural64_any HM.out.2.2.1).mono ?_
      rintro e w1 ⟨u, rfl, hu, hb1⟩
      obtain ⟨A, l, c, rfl⟩ := hu.shape
      have H1 := Lib.hid (And.intro hu hb1)
      clear hu hb1
      go_wp2_with fail
      refine (signed_any false H1.out.1 HM.out.2.1 (by omega)).mono ?_
      rw [HZ.out]
      rintro e w2 ⟨v, rfl, hv, hb2⟩
      obtain ⟨A, l, c, rfl, hz⟩ := hv.shape_s HS.out
      have hR2 := (HR.out.1.next H1.out.2 HR.out.1.lt).next hb2 (Nat.lt_of_lt_of_le HR.out.1.lt H1.out.2.size)
      obtain ⟨v0, c0⟩ := hR2.c0
      obtain ⟨v1, c1⟩ := hR2.c1
      have f0 := hR2.f0
      have f1 := hR2.f1
      have hb3 : Below w.heap.size w w2 := (HR.out.2.trans (H1.out.2.mono HR.out.2.size)).trans (hb2.mono (Nat.le_trans HR.out.2.size H1.out.2.size))
      have HF := Lib.hid (And.intro (hR2.put0 s A l c) (And.intro (hR2.put1 s A l c) (And.intro (hR2.size hz s A l c) (setInt_below hb3 (Nat.le_refl _) s A l c))))
      clear hR2 hb2 hb3 hz
      go_wp2
      have hf := HF.out
      rw [show (w2.setCell ⟨w.heap.size, 0, none⟩ (.int .i64 s)).setCell ⟨w.heap.size, 1, none⟩ (.slice A l c) = setInt w2 w.heap.size s A l c from rfl]
      obtain ⟨z0, z1, z2, z3⟩ := hf
      generalize setInt w2 w.heap.size s A l c = W3 at *
      exact bodyPost_ret (v := .agg #[.int .i64 s, .slice A l c]) (by simp [results, Tryz.results47, go_sem, z0, z1]) rfl ⟨_, rfl, ⟨A, l, c, by rw [HS.out], z2⟩, z3⟩
end Go.Proofs.YtjghgbfagjhdgaaGreatDoor
namespace Go.Proofs.YtjghgbfagjhdgaaGreatDoor
open Go Go.RowKit Go.Sort Go.Lib

/-- The table that Itoa and FormatUint read lies where the program's text lays it. -/
def Tab (w : World) : Prop := Lib.TabIs Tryz.prog w "internal/strconv.uint64pow10" .u64 Lib.pow10Tab ∧ 0 < w.heap.size
theorem tab_named : Tryz.prog.globalNamed "internal/strconv.uint64pow10" = some 0 := by kernel_rfl
theorem Tab.below {w w' : World} (h : Tab w) (hb : Below w.heap.size w w') : Tab w' :=
  ⟨var?_below hb tab_named h.2 h.1, Nat.lt_of_lt_of_le h.2 hb.size⟩
theorem grow_below (w : World) (k : Nat) (os : Array Obj) : Below w.heap.size w (grow (w.drewN k) os) := by
  refine ⟨rfl, rfl, rfl, ?_, ?_⟩
  · show w.heap.size ≤ (w.heap ++ os).size
    rw [Array.size_append]; omega
  · intro k hk
    show (w.heap ++ os)[k]? = w.heap[k]?
    rw [Array.getElem?_append_left hk]
theorem holds_zero0 (w : World) (T : TypeId) (nd : Nat) (hs : nd ≤ 24) : Holds (fun (b : UInt8) => Value.int .u8 (b.toNat : Int)) (w.alloc (.cells zeros24 T)) w.heap.size 0 (Array.replicate nd (0 : UInt8)) := fun j hj => by
  have hj' : j < nd := by simpa using hj
  refine ⟨?_, World.frozen?_alloc_new _ _ _ _⟩
  rw [World.cell?_alloc_new, zeros24_at _ (by omega), getElem!_pos _ j hj]
  simp
theorem fin_zero (w : World) (o : Obj) (dk : Array UInt8) (k : Nat) : ∃ os, (putRow (fun (b : UInt8) => Value.int .u8 (b.toNat : Int)) (w.alloc o) w.heap.size 0 dk).drewN k = grow (w.drewN k) os := by
  rw [alloc_eq_grow]
  obtain ⟨os', _, e⟩ := putRow_grow_new (fun (b : UInt8) => Value.int .u8 (b.toNat : Int)) w #[o] w.heap.size 0 dk (Nat.le_refl _)
  exact ⟨os', by rw [e]; rfl⟩
theorem al24 : Tryz.prog.arrayLen 246 = 24 := by kernel_rfl

set_option maxHeartbeats 6400000 in
set_option maxRecDepth 100000 in
theorem uint_inner (u : Nat) (hu64 : u < 18446744073709551616) (w : World) (ht : Tab w) :
    Calls Tryz.prog 210 #[.int .u64 (u : Int), .int .i64 10] w fun e w' => e = .returned (.string ⟨(Lib.decDigits u).toArray⟩) ∧ Below w.heap.size w w' := by
  have htab := ht.1
  by_cases hs : u < 100
  · have hsm := fun w => Tryz.internal_strconv_small u hs w
    have HS := Lib.hid hsm
    have hlt : (u : Int) < 100 := by omega
    clear hsm htab hs
    go_enter Tryz.func210, Tryz.ntmps210
    go_wp2_with fail
    refine (HS.out _).mono ?_
    rintro e w' ⟨rfl, rfl⟩
    go_wp2
    go_ret
    exact ⟨rfl, Below.refl _ _⟩
  · have hu1 : 1 ≤ u := by omega
    have hge : ¬ (u : Int) < 100 := by omega
    have hnd20 : Lib.nDigits u ≤ 20 := by have := Lib.numDigits_eq u hu1 hu64; split at this <;> omega
    have hb3 : Lib.nDigits u ≤ 24 := by omega
    have hsl1 : ∀ W, (Instr.sliceAt 246 (.pointer (some ⟨w.heap.size, 0, none⟩)) none (some (.int .i64 (Lib.nDigits u : Int))) none).run Tryz.prog W = .ok (.slice (some ⟨w.heap.size, 0, none⟩) (Lib.nDigits u) 24) W := fun W => by
      rw [run_sliceAt_array_h W 246 ⟨w.heap.size, 0, none⟩ (by simp [Program.arrayLen, Program.elem, Tryz.underlying246]) .i64 (Lib.nDigits u : Int) (by omega) (by rw [al24]; omega)]
      go_simp
    have hH0 := holds_zero0 w 246 (Lib.nDigits u) (by omega)
    have hfmt := Tryz.internal_strconv_formatBase10 w.heap.size 0 24 u (Array.replicate (Lib.nDigits u) 0) (w.alloc (.cells Lib.zeros24 246)) hH0 (by rw [Array.size_replicate]; exact Lib.lt_pow_nDigits u) hu64 (by rw [Array.size_replicate]; omega)
    rw [Array.size_replicate] at hfmt
    have HH0 := Lib.hid hH0
    have HF := Lib.hid hfmt
    have HN := Lib.hid (fun w htab => Tryz.internal_strconv_numDigits u hu1 hu64 w htab)
    clear hH0 hfmt hs
    go_enter Tryz.func210, Tryz.ntmps210
    go_wp2_with fail
    refine (HN.out _ (Lib.tabIs_alloc htab _)).mono ?_
    rintro e w' ⟨rfl, rfl⟩
    go_wp2_with fail
    refine HF.out.mono ?_
    rintro e w' ⟨rfl, k, v', dk, rfl, hF⟩
    have hcv : (convert 66 9 (.slice (some ⟨w.heap.size, 0, none⟩) (Lib.nDigits u) 24)).run Tryz.prog ((putRow (fun (b : UInt8) => Value.int .u8 (b.toNat : Int)) (w.alloc (.cells Lib.zeros24 246)) w.heap.size 0 dk).drewN k) = .ok (.string ⟨(Lib.decDigits u).toArray⟩) ((putRow (fun (b : UInt8) => Value.int .u8 (b.toNat : Int)) (w.alloc (.cells Lib.zeros24 246)) w.heap.size 0 dk).drewN k) := by
      have h := run_convert_bytes_back (P := Tryz.prog) ((putRow (fun (b : UInt8) => Value.int .u8 (b.toNat : Int)) (w.alloc (.cells Lib.zeros24 246)) w.heap.size 0 dk).drewN k) 66 9 5 ⟨w.heap.size, 0, none⟩ 24 (Lib.decDigits u) Tryz.underlying66 Tryz.underlying5 Tryz.underlying9 (fun j hj => by
        rw [Lib.row_is_numeral hF j hj, Lib.add_plain, World.cell?_drewN]
        exact cell?_putRow (fun (b : UInt8) => Value.int .u8 (b.toNat : Int)) _ w.heap.size 0 _ dk HH0.out (by rw [hF.size, Array.size_replicate]) j (by rw [hF.size]; rw [Lib.decDigits_length] at hj; exact hj))
      rw [Lib.decDigits_length] at h
      exact h
    obtain ⟨os, eo⟩ := fin_zero w (.cells Lib.zeros24 246) dk k
    have HO := Lib.hid eo
    clear eo hF
    go_wp2
    go_ret
    refine ⟨rfl, ?_⟩
    rw [HO.out]
    exact grow_below w k os
theorem uint_any (u : Nat) (hu64 : u < 18446744073709551616) (w : World) (ht : Tab w) :
    Calls Tryz.prog 175 #[.int .u64 (u : Int), .int .i64 10] w fun e w' => e = .returned (.string ⟨(Lib.decDigits u).toArray⟩) ∧ Below w.heap.size w w' := by
  have HU := Lib.hid (uint_inner u hu64 w ht)
  clear ht
  go_enter Tryz.func175, Tryz.ntmps175
  go_wp2_with fail
  refine HU.out.mono ?_
  rintro e w' ⟨rfl, hb⟩
  go_wp2
  go_ret
  exact ⟨rfl, hb⟩
end Go.Proofs.YtjghgbfagjhdgaaGreatDoor
