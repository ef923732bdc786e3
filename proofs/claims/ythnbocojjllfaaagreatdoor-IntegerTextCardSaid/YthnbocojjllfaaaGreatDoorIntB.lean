/- signed, Make. -/
import Derived.Test.YthnbocojjllfaaaGreatDoorIntA
namespace Go.Proofs.YthnbocojjllfaaaGreatDoor
open Go Go.RowKit

theorem below_cells {w0 w : World} {B : Nat} (h : Below B w0 w) : ∀ p : Addr, p.block < B → w.cell? p = w0.cell? p := fun _ hp => h.cell hp
/-- With a sign. -/
def withSign (neg : Bool) (n : Nat) : Int := if neg then -(n : Int) else (n : Int)
theorem withSign_abs (neg : Bool) (n : Nat) : (withSign neg n).natAbs = n := by unfold withSign; split <;> omega

set_option maxHeartbeats 800000 in
theorem signed_short {w : World} {s : Value} {n : Nat} (neg : Bool) (h : IsNat w s n) (hn : n ≤ 4611686018427387903) :
    Calls Tryz.prog 138 #[.bool neg, s] w fun e w' => e = .returned (.agg #[.int .i64 (withSign neg n), .slice none 0 0]) ∧ Below w.heap.size w w' := by
  have hn2 : n < M.B ^ 2 := by rw [show (2 : Nat) = 1 + 1 by rfl, M.pow_succ', Nat.pow_one, M.B_eq]; omega
  obtain ⟨A, l, c, rfl, hl, hm, hlk, hlc, hc⟩ := h.open_ hn2
  have hw := Lib.hid (word_eq hl.1 hlk)
  have H := Lib.hid (And.intro h hl)
  clear h hl hm hn2
  cases neg with
  | false =>
    rw [show withSign false n = (n : Int) by rfl]
    go_enter Tryz.func138, Tryz.ntmps138
    go_wp2_with fail
    refine (word_low c (H.out.2.below (B := w.heap.size) ?_ (Nat.le_refl _)) (by omega)).mono ?_
    · exact ((Below.refl _ _).alloc (Nat.le_refl _) _).alloc (by simp) _
    rw [hw.out]
    rintro e w1 ⟨rfl, rfl⟩
    go_wp2
    exact bodyPost_ret (v := .agg #[.int .i64 (n : Int), .slice none 0 0]) (by simp [results, Tryz.results138, go_sem]) rfl ⟨rfl, ((((Below.refl _ _).alloc (Nat.le_refl _) _).alloc (by simp) _))⟩
  | true =>
    rw [show withSign true n = -(n : Int) by rfl]
    go_enter Tryz.func138, Tryz.ntmps138
    go_wp2_with fail
    refine (word_low c (H.out.2.below (B := w.heap.size) ?_ (Nat.le_refl _)) (by omega)).mono ?_
    · exact ((Below.refl _ _).alloc (Nat.le_refl _) _).alloc (by simp) _
    rw [hw.out]
    rintro e w1 ⟨rfl, rfl⟩
    go_wp2
    exact bodyPost_ret (v := .agg #[.int .i64 (-(n : Int)), .slice none 0 0]) (by simp [results, Tryz.results138, go_sem]) rfl ⟨rfl, ((((Below.refl _ _).alloc (Nat.le_refl _) _).alloc (by simp) _))⟩

set_option maxHeartbeats 800000 in
theorem signed_two {w : World} {A : Option Addr} {l c n : Nat} (neg : Bool) (h : IsNat w (.slice A l c) n) (hl2 : l ≤ 2) (hn : ¬ n ≤ 4611686018427387903) :
    Calls Tryz.prog 138 #[.bool neg, .slice A l c] w fun e w' => e = .returned (.agg #[.int .i64 (if neg then -1 else 1), .slice A l c]) ∧ Below w.heap.size w w' := by
  have hl : Limbs w A l n := by obtain ⟨A', l', c', e, hl, _⟩ := h; injection e with e1 e2 e3; subst e1 e2 e3; exact hl
  have hw := Lib.hid (word_eq hl.1 hl2)
  have hn' : ¬ (n : Int) ≤ 4611686018427387903 := by omega
  have H := Lib.hid hl
  clear h hl hn
  cases neg with
  | false =>
    go_enter Tryz.func138, Tryz.ntmps138
    go_wp2_with fail
    refine (word_low c (H.out.below (B := w.heap.size) ?_ (Nat.le_refl _)) (by omega)).mono ?_
    · exact ((Below.refl _ _).alloc (Nat.le_refl _) _).alloc (by simp) _
    rw [hw.out]
    rintro e w1 ⟨rfl, rfl⟩
    go_wp2
    exact bodyPost_ret (v := .agg #[.int .i64 1, .slice A l c]) (by simp [results, Tryz.results138, go_sem]) rfl ⟨rfl, ((((Below.refl _ _).alloc (Nat.le_refl _) _).alloc (by simp) _))⟩
  | true =>
    go_enter Tryz.func138, Tryz.ntmps138
    go_wp2_with fail
    refine (word_low c (H.out.below (B := w.heap.size) ?_ (Nat.le_refl _)) (by omega)).mono ?_
    · exact ((Below.refl _ _).alloc (Nat.le_refl _) _).alloc (by simp) _
    rw [hw.out]
    rintro e w1 ⟨rfl, rfl⟩
    go_wp2
    exact bodyPost_ret (v := .agg #[.int .i64 (-1), .slice A l c]) (by simp [results, Tryz.results138, go_sem]) rfl ⟨rfl, ((((Below.refl _ _).alloc (Nat.le_refl _) _).alloc (by simp) _))⟩
set_option maxHeartbeats 800000 in
theorem signed_many {w : World} {A : Option Addr} {l c n : Nat} (neg : Bool) (h : IsNat w (.slice A l c) n) (hl2 : ¬ l ≤ 2) (hl6 : l ≤ 60000) :
    Calls Tryz.prog 138 #[.bool neg, .slice A l c] w fun e w' => e = .returned (.agg #[.int .i64 (if neg then -1 else 1), .slice A l c]) ∧ Below w.heap.size w w' := by
  have hl : Limbs w A l n := by obtain ⟨A', l', c', e, hl, _⟩ := h; injection e with e1 e2 e3; subst e1 e2 e3; exact hl
  have hn' : ¬ (l : Int) ≤ 2 := by omega
  have H := Lib.hid hl
  clear h hl hl2
  cases neg with
  | false =>
    go_enter Tryz.func138, Tryz.ntmps138
    go_wp2_with fail
    refine (word_low c (H.out.below (B := w.heap.size) ?_ (Nat.le_refl _)) (by omega)).mono ?_
    · exact ((Below.refl _ _).alloc (Nat.le_refl _) _).alloc (by simp) _
    rintro e w1 ⟨rfl, rfl⟩
    go_wp2
    exact bodyPost_ret (v := .agg #[.int .i64 1, .slice A l c]) (by simp [results, Tryz.results138, go_sem]) rfl ⟨rfl, ((((Below.refl _ _).alloc (Nat.le_refl _) _).alloc (by simp) _))⟩
  | true =>
    go_enter Tryz.func138, Tryz.ntmps138
    go_wp2_with fail
    refine (word_low c (H.out.below (B := w.heap.size) ?_ (Nat.le_refl _)) (by omega)).mono ?_
    · exact ((Below.refl _ _).alloc (Nat.le_refl _) _).alloc (by simp) _
    rintro e w1 ⟨rfl, rfl⟩
    go_wp2
    exact bodyPost_ret (v := .agg #[.int .i64 (-1), .slice A l c]) (by simp [results, Tryz.results138, go_sem]) rfl ⟨rfl, ((((Below.refl _ _).alloc (Nat.le_refl _) _).alloc (by simp) _))⟩

/-- A size with its sign. -/
theorem signed_any {w : World} {s : Value} {n k : Nat} (neg : Bool) (h : IsNat w s n) (hn : n < M.B ^ k) (hk : k ≤ 60000) :
    Calls Tryz.prog 138 #[.bool neg, s] w fun e w' => ∃ v, e = .returned v ∧ IsInt w' v (withSign neg n) ∧ Below w.heap.size w w' := by
  by_cases hs : n ≤ 4611686018427387903
  · refine (signed_short neg h hs).mono ?_
    rintro e w' ⟨rfl, hb⟩
    exact ⟨_, rfl, IsInt.short _ (by rw [withSign_abs]; exact hs), hb⟩
  · obtain ⟨A, l, c, rfl, hl, hm, hlk, hlc, hc⟩ := h.open_ hn
    have h0 : 0 < l := by
      have hz := len_zero hm hl.1
      have : ¬ l = 0 := fun e => by have := hz.1 e; omega
      omega
    have hsg : (if neg = true then (-1 : Int) else 1) = sgn (withSign neg n) := by
      unfold withSign sgn
      cases neg <;> simp <;> omega
    have fin : ∀ (e : Ending) (w' : World), (e = .returned (.agg #[.int .i64 (if neg then -1 else 1), .slice A l c]) ∧ Below w.heap.size w w') → ∃ v, e = .returned v ∧ IsInt w' v (withSign neg n) ∧ Below w.heap.size w w' := by
      rintro e w' ⟨rfl, hb⟩
      exact ⟨_, rfl, IsInt.long (by rw [withSign_abs]; exact hs) hsg h0 (by rw [withSign_abs]; exact h.below hb (Nat.le_refl _)), hb⟩
    by_cases hl2 : l ≤ 2
    · exact (signed_two neg h hl2 hs).mono fin
    · exact (signed_many neg h hl2 (by omega)).mono fin

/-- The place for an integer that the call has laid: block g. -/
structure Res (g : Nat) (w : World) : Prop where
  r : ∃ s A l c, w.heap[g]? = some (.cells #[.int .i64 s, .slice A l c] 81 (0, 0))
/-- The place g with an integer's two cells in it. -/
def setInt (w : World) (g : Nat) (s : Int) (A : Option Addr) (l c : Nat) : World := (w.setCell ⟨g, 0, none⟩ (.int .i64 s)).setCell ⟨g, 1, none⟩ (.slice A l c)
section
variable {g : Nat} {w w' : World}
theorem Res.lt (h : Res g w) : g < w.heap.size := by obtain ⟨b, A, l, c, e⟩ := h.r; exact lt_of_block e
theorem Res.new (w : World) : Res w.heap.size (w.alloc (.cells #[.int .i64 0, .slice none 0 0] 81)) := ⟨⟨_, _, _, _, heap_alloc_new w _⟩⟩
theorem Res.next (h : Res g w) {B : Nat} (hb : Below B w w') (hB : g < B) : Res g w' := by
  obtain ⟨b, A, l, c, e⟩ := h.r
  exact ⟨⟨b, A, l, c, (hb.block g hB).trans e⟩⟩
theorem Res.drew (h : Res g w) : Res g w.drew := ⟨h.r⟩
theorem Res.c0 (h : Res g w) : ∃ v, w.cell? ⟨g, 0, none⟩ = some v := by
  obtain ⟨b, A, l, c, e⟩ := h.r
  exact ⟨.int .i64 b, by simp [World.cell?, e]⟩
theorem Res.c1 (h : Res g w) : ∃ v, w.cell? ⟨g, 1, none⟩ = some v := by
  obtain ⟨b, A, l, c, e⟩ := h.r
  exact ⟨.slice A l c, by simp [World.cell?, e]⟩
theorem Res.f0 (h : Res g w) : w.frozen? ⟨g, 0, none⟩ = false := by
  obtain ⟨b, A, l, c, e⟩ := h.r
  simp [World.frozen?, e]
theorem Res.f1 (h : Res g w) : w.frozen? ⟨g, 1, none⟩ = false := by
  obtain ⟨b, A, l, c, e⟩ := h.r
  simp [World.frozen?, e]
theorem setInt_size (w : World) (g : Nat) (s : Int) (A : Option Addr) (l c : Nat) : (setInt w g s A l c).heap.size = w.heap.size := by simp [setInt, World.setCell]
theorem Res.putBlock (h : Res g w) (s : Int) (A : Option Addr) (l c : Nat) : (setInt w g s A l c).heap[g]? = some (.cells #[.int .i64 s, .slice A l c] 81 (0, 0)) := by
  obtain ⟨b', A', l', c', e⟩ := h.r
  simp [setInt, World.setCell, Array.getElem?_modify, e]
theorem Res.put (h : Res g w) (s : Int) (A : Option Addr) (l c : Nat) : Res g (setInt w g s A l c) := ⟨⟨_, _, _, _, h.putBlock s A l c⟩⟩
theorem Res.put0 (h : Res g w) (s : Int) (A : Option Addr) (l c : Nat) : (setInt w g s A l c).cell? ⟨g, 0, none⟩ = some (.int .i64 s) := by
  simp [World.cell?, h.putBlock s A l c]
theorem Res.put1 (h : Res g w) (s : Int) (A : Option Addr) (l c : Nat) : (setInt w g s A l c).cell? ⟨g, 1, none⟩ = some (.slice A l c) := by
  simp [World.cell?, h.putBlock s A l c]
theorem setInt_other (w : World) {g k : Nat} (hk : k ≠ g) (s : Int) (A : Option Addr) (l c : Nat) (i : Nat) : (setInt w g s A l c).cell? ⟨k, i, none⟩ = w.cell? ⟨k, i, none⟩ := by
  unfold setInt
  rw [World.cell?_setCell_other _ _ _ _ (by intro e; injection e with e1 _; exact hk e1.symm), World.cell?_setCell_other _ _ _ _ (by intro e; injection e with e1 _; exact hk e1.symm)]
theorem setInt_block (w : World) {g k : Nat} (hk : k ≠ g) (s : Int) (A : Option Addr) (l c : Nat) : (setInt w g s A l c).heap[k]? = w.heap[k]? := by
  unfold setInt
  rw [Below.heap_setCell _ _ _ _ (by simpa using hk), Below.heap_setCell _ _ _ _ (by simpa using hk)]
theorem setInt_below {w0 : World} {B : Nat} (h : Below B w0 w) (hg : B ≤ g) (s : Int) (A : Option Addr) (l c : Nat) : Below B w0 (setInt w g s A l c) := (h.setCell (by simpa using hg) _).setCell (by simpa using hg) _
/-- Limbs do not lie where the result lies. -/
theorem Res.nat (h : Res g w) {v : Value} {n : Nat} (hv : IsNat w v n) (s : Int) (A : Option Addr) (l c : Nat) : IsNat (setInt w g s A l c) v n := by
  obtain ⟨A1, l1, c1, e, ⟨hn, hl⟩, r⟩ := hv
  refine ⟨A1, l1, c1, e, ⟨hn, fun h0 => ?_⟩, r⟩
  obtain ⟨g', off, e2, hg, hc⟩ := hl h0
  obtain ⟨b', A', l', c', e3⟩ := h.r
  have hne : g' ≠ g := by
    intro e4
    subst e4
    have h5 := hc 0 h0
    simp only [World.cell?, e3] at h5
    have : ∀ (k : Nat) (x : Int), ([Value.int .i64 b', .slice A' l' c'] : List Value)[k]? ≠ some (Value.int .u32 x) := by
      intro k x
      match k with
      | 0 => simp
      | 1 => simp
      | k + 2 => simp
    simp at h5
    exact this _ _ h5
  refine ⟨g', off, e2, by rw [setInt_size]; exact hg, fun i hi => ?_⟩
  rw [setInt_other w hne s A l c]
  exact hc i hi
theorem Res.size (h : Res g w) {A1 : Option Addr} {l1 c1 : Nat} {z : Int} (hv : Size w A1 l1 c1 z) (s : Int) (A : Option Addr) (l c : Nat) : Size (setInt w g s A l c) A1 l1 c1 z :=
  ⟨hv.1, fun hl => ⟨(hv.2 hl).1, h.nat (hv.2 hl).2 s A l c⟩⟩
theorem Res.int (h : Res g w) {z : Int} {v : Value} (hv : IsInt w v z) (s : Int) (A : Option Addr) (l c : Nat) : IsInt (setInt w g s A l c) v z := by
  obtain ⟨A1, l1, c1, e, hs⟩ := hv
  exact ⟨A1, l1, c1, e, h.size hs s A l c⟩
end
theorem IsInt.shape {w : World} {v : Value} {z : Int} (h : IsInt w v z) : ∃ A l c, v = .agg #[.int .i64 (wrd z), .slice A l c] ∧ Size w A l c z := h
theorem IsInt.shape_s {w : World} {v : Value} {z s : Int} (h : IsInt w v z) (hs : s = wrd z) : ∃ A l c, v = .agg #[.int .i64 s, .slice A l c] ∧ Size w A l c z := by subst hs; exact h

set_option maxHeartbeats 400000 in
theorem make_any {w : World} {z : Int} (h1 : -9223372036854775808 ≤ z) (h2 : z ≤ 9223372036854775807) :
    Calls Tryz.prog 136 #[.int .i64 z] w fun e w' => ∃ v, e = .returned v ∧ IsInt w' v z ∧ Below w.heap.size w w' := by
  by_cases hs : z.natAbs ≤ 4611686018427387903
  · have HS := Lib.hid hs
    have b1 : -4611686018427387903 ≤ z := by omega
    have b2 : z ≤ 4611686018427387903 := by omega
    clear hs h1 h2
    go_enter Tryz.func136, Tryz.ntmps136
    go_wp2
    exact bodyPost_ret (v := .agg #[.int .i64 z, .slice none 0 0]) (by simp [results, Tryz.results136, go_sem]) rfl ⟨_, rfl, IsInt.short _ HS.out, (Below.refl _ _).alloc (Nat.le_refl _) _⟩
  · have hm := fun w => magnitude_any (w := w) z h1 h2
    have hn2 : z.natAbs < M.B ^ 2 := by rw [show (2 : Nat) = 1 + 1 by rfl, M.pow_succ', Nat.pow_one, M.B_eq]; omega
    have hn3 : z.natAbs < M.B * M.B := by rw [M.B_eq]; omega
    have hz := withSign_abs
    have HM := Lib.hid (And.intro hm (And.intro hn2 (And.intro hn3 hs)))
    clear hm hn2 hn3 hs hz
    obtain ⟨s, hs⟩ : ∃ s, s = wrd z := ⟨_, rfl⟩
    have HS := Lib.hid hs
    clear hs
    by_cases hneg : z < 0
    · have hlt : ¬ -4611686018427387903 ≤ z := by have := HM.out.2.2.2; omega
      have HZ := Lib.hid (show withSign true z.natAbs = z by unfold withSign; simp; omega)
      go_enter Tryz.func136, Tryz.ntmps136
      have hb0 : Below w.heap.size w (w.alloc (.cells #[.int .i64 0, .slice none 0 0] 81)) := (Below.refl _ _).alloc (Nat.le_refl _) _
      have HR := Lib.hid (And.intro (Res.new w) hb0)
      clear hb0
      go_wp2_with fail
      generalize w.alloc (.cells #[.int .i64 0, .slice none 0 0] 81) = w0 at *
      refine (HM.out.1 _).mono ?_
      rintro e w1 ⟨rfl, rfl⟩
      go_wp2_with fail
      refine (natural64_any HM.out.2.2.1).mono ?_
      rintro e w1 ⟨u, rfl, hu, hb1⟩
      obtain ⟨A, l, c, rfl⟩ := hu.shape
      have H1 := Lib.hid (And.intro hu hb1)
      clear hu hb1
      go_wp2_with fail
      refine (signed_any true H1.out.1 HM.out.2.1 (by omega)).mono ?_
      rw [HZ.out]
      rintro e w2 ⟨v, rfl, hv, hb2⟩
      obtain ⟨A, l, c, rfl, hz⟩ := hv.shape_s HS.out
      have hR2 := (HR.out.1.next H1.out.2 HR.out.1.lt).next hb2 (Nat.lt_of_lt_of_le HR.out.1.lt H1.out.2.size)
      obtain ⟨v0, c0⟩ := hR2.c0
      obtain ⟨v1, c1⟩ := hR2.c1
      have f0 := hR2.f0
      have f1 := hR2.f1
      have hb3 : Below w.heap.size w w2 := (HR.out.2.trans (H1.out.2.mono HR.out.2.size)).trans (hb2.mono (Nat.le_trans HR.out.2.size H1.out.2.size))
      have HF := Lib.hid (And.intro (hR2.put0 s A l c) (And.intro (hR2.put1 s A l c) (And.intro (hR2.size hz s A l c) (setInt_below hb3 (Nat.le_refl _) s A l c))))
      clear hR2 hb2 hb3 hz
      go_wp2
      have hf := HF.out
      rw [show (w2.setCell ⟨w.heap.size, 0, none⟩ (.int .i64 s)).setCell ⟨w.heap.size, 1, none⟩ (.slice A l c) = setInt w2 w.heap.size s A l c from rfl]
      obtain ⟨z0, z1, z2, z3⟩ := hf
      generalize setInt w2 w.heap.size s A l c = W3 at *
      exact bodyPost_ret (v := .agg #[.int .i64 s, .slice A l c]) (by simp [results, Tryz.results136, go_sem, z0, z1]) rfl ⟨_, rfl, ⟨A, l, c, by rw [HS.out], z2⟩, z3⟩
    · have hge : -4611686018427387903 ≤ z := by omega
      have hlt : ¬ z ≤ 4611686018427387903 := by have := HM.out.2.2.2; omega
      have HZ := Lib.hid (show withSign false z.natAbs = z by unfold withSign; simp; omega)
      go_enter Tryz.func136, Tryz.ntmps136
      have hb0 : Below w.heap.size w (w.alloc (.cells #[.int .i64 0, .slice none 0 0] 81)) := (Below.refl _ _).alloc (Nat.le_refl _) _
      have HR := Lib.hid (And.intro (Res.new w) hb0)
      clear hb0
      go_wp2_with fail
      generalize w.alloc (.cells #[.int .i64 0, .slice none 0 0] 81) = w0 at *
      refine (HM.out.1 _).mono ?_
      rintro e w1 ⟨rfl, rfl⟩
      go_wp2_with fail
      refine (natural64_any HM.out.2.2.1).mono ?_
      rintro e w1 ⟨u, rfl, hu, hb1⟩
      obtain ⟨A, l, c, rfl⟩ := hu.shape
      have H1 := Lib.hid (And.intro hu hb1)
      clear hu hb1
      go_wp2_with fail
      refine (signed_any false H1.out.1 HM.out.2.1 (by omega)).mono ?_
      rw [HZ.out]
      rintro e w2 ⟨v, rfl, hv, hb2⟩
      obtain ⟨A, l, c, rfl, hz⟩ := hv.shape_s HS.out
      have hR2 := (HR.out.1.next H1.out.2 HR.out.1.lt).next hb2 (Nat.lt_of_lt_of_le HR.out.1.lt H1.out.2.size)
      obtain ⟨v0, c0⟩ := hR2.c0
      obtain ⟨v1, c1⟩ := hR2.c1
      have f0 := hR2.f0
      have f1 := hR2.f1
      have hb3 : Below w.heap.size w w2 := (HR.out.2.trans (H1.out.2.mono HR.out.2.size)).trans (hb2.mono (Nat.le_trans HR.out.2.size H1.out.2.size))
      have HF := Lib.hid (And.intro (hR2.put0 s A l c) (And.intro (hR2.put1 s A l c) (And.intro (hR2.size hz s A l c) (setInt_below hb3 (Nat.le_refl _) s A l c))))
      clear hR2 hb2 hb3 hz
      go_wp2
      have hf := HF.out
      rw [show (w2.setCell ⟨w.heap.size, 0, none⟩ (.int .i64 s)).setCell ⟨w.heap.size, 1, none⟩ (.slice A l c) = setInt w2 w.heap.size s A l c from rfl]
      obtain ⟨z0, z1, z2, z3⟩ := hf
      generalize setInt w2 w.heap.size s A l c = W3 at *
      exact bodyPost_ret (v := .agg #[.int .i64 s, .slice A l c]) (by simp [results, Tryz.results136, go_sem, z0, z1]) rfl ⟨_, rfl, ⟨A, l, c, by rw [HS.out], z2⟩, z3⟩
end Go.Proofs.YthnbocojjllfaaaGreatDoor
