/- Read, integer.read. -/
import Derived.Test.YtafknlnlejopeaaGreatDoorRead
namespace Go.Proofs.YtafknlnlejopeaaGreatDoor
open Go Go.RowKit

/-- The place for an integer that the call has laid: block g. -/
structure Res (g : Nat) (w : World) : Prop where
  r : ∃ b A l c, w.heap[g]? = some (.cells #[.bool b, .slice A l c] 58 (0, 0))
section
variable {g : Nat} {w w' : World}
theorem Res.lt (h : Res g w) : g < w.heap.size := by obtain ⟨b, A, l, c, e⟩ := h.r; exact lt_of_block e
theorem Res.new (w : World) : Res w.heap.size (w.alloc (.cells #[.bool false, .slice none 0 0] 58)) := ⟨⟨_, _, _, _, heap_alloc_new w _⟩⟩
theorem Res.next (h : Res g w) {B : Nat} (hb : Below B w w') (hB : g < B) : Res g w' := by
  obtain ⟨b, A, l, c, e⟩ := h.r
  exact ⟨⟨b, A, l, c, (hb.block g hB).trans e⟩⟩
theorem Res.drew (h : Res g w) : Res g w.drew := ⟨h.r⟩
theorem Res.c0 (h : Res g w) : ∃ v, w.cell? ⟨g, 0, none⟩ = some v := by
  obtain ⟨b, A, l, c, e⟩ := h.r
  exact ⟨.bool b, by simp [World.cell?, e]⟩
theorem Res.c1 (h : Res g w) : ∃ v, w.cell? ⟨g, 1, none⟩ = some v := by
  obtain ⟨b, A, l, c, e⟩ := h.r
  exact ⟨.slice A l c, by simp [World.cell?, e]⟩
theorem Res.f0 (h : Res g w) : w.frozen? ⟨g, 0, none⟩ = false := by
  obtain ⟨b, A, l, c, e⟩ := h.r
  simp [World.frozen?, e]
theorem Res.f1 (h : Res g w) : w.frozen? ⟨g, 1, none⟩ = false := by
  obtain ⟨b, A, l, c, e⟩ := h.r
  simp [World.frozen?, e]
theorem Res.put (h : Res g w) (b : Bool) (A : Option Addr) (l c : Nat) : Res g ((w.setCell ⟨g, 0, none⟩ (.bool b)).setCell ⟨g, 1, none⟩ (.slice A l c)) := by
  obtain ⟨b', A', l', c', e⟩ := h.r
  exact ⟨⟨b, A, l, c, by simp [World.setCell, Array.getElem?_modify, e]⟩⟩
theorem Res.put0 (h : Res g w) (b : Bool) (A : Option Addr) (l c : Nat) : ((w.setCell ⟨g, 0, none⟩ (.bool b)).setCell ⟨g, 1, none⟩ (.slice A l c)).cell? ⟨g, 0, none⟩ = some (.bool b) := by
  obtain ⟨b', A', l', c', e⟩ := h.r
  simp [World.cell?, World.setCell, Array.getElem?_modify, e]
theorem Res.put1 (h : Res g w) (b : Bool) (A : Option Addr) (l c : Nat) : ((w.setCell ⟨g, 0, none⟩ (.bool b)).setCell ⟨g, 1, none⟩ (.slice A l c)).cell? ⟨g, 1, none⟩ = some (.slice A l c) := by
  obtain ⟨b', A', l', c', e⟩ := h.r
  simp [World.cell?, World.setCell, Array.getElem?_modify, e]
/-- Limbs do not lie where the result lies. -/
theorem Res.nat (h : Res g w) {v : Value} {n : Nat} (hv : IsNat w v n) (b : Bool) (A : Option Addr) (l c : Nat) :
    IsNat ((w.setCell ⟨g, 0, none⟩ (.bool b)).setCell ⟨g, 1, none⟩ (.slice A l c)) v n := by
  obtain ⟨A1, l1, c1, e, ⟨hn, hl⟩, r⟩ := hv
  refine ⟨A1, l1, c1, e, ⟨hn, fun h0 => ?_⟩, r⟩
  obtain ⟨g', off, e2, hg, hc⟩ := hl h0
  obtain ⟨b', A', l', c', e3⟩ := h.r
  have hne : g' ≠ g := by
    intro e4
    subst e4
    have h5 := hc 0 h0
    simp only [World.cell?, e3] at h5
    have : ∀ (k : Nat) (x : Int), ([Value.bool b', .slice A' l' c'] : List Value)[k]? ≠ some (Value.int .u32 x) := by
      intro k x
      match k with
      | 0 => simp
      | 1 => simp
      | k + 2 => simp
    simp at h5
    exact this _ _ h5
  refine ⟨g', off, e2, by simpa [World.setCell] using hg, fun i hi => ?_⟩
  rw [World.cell?_setCell_other _ _ _ _ (by intro e; injection e with e1 _; exact hne e1.symm), World.cell?_setCell_other _ _ _ _ (by intro e; injection e with e1 _; exact hne e1.symm)]
  exact hc i hi
theorem Res.int (h : Res g w) {z : Int} {b : Bool} {A : Option Addr} {l c : Nat} (hv : IsInt w (.agg #[.bool b, .slice A l c]) z) (b' : Bool) (A' : Option Addr) (l' c' : Nat) :
    IsInt ((w.setCell ⟨g, 0, none⟩ (.bool b')).setCell ⟨g, 1, none⟩ (.slice A' l' c')) (.agg #[.bool b, .slice A l c]) z := by
  obtain ⟨s, e, hn⟩ := hv
  exact ⟨s, e, h.nat hn b' A' l' c'⟩
end

theorem cut_minus {w : World} (s : ByteArray) {neg : Bool} {d : List UInt8} (h1 : Lib.hasPrefix s.data.toList [45] = neg) (h2 : Lib.trimPrefix s.data.toList [45] = d) :
    Calls Tryz.prog 95 #[.string s, .string ⟨#[45]⟩] w fun e w' => e = .returned (.tuple #[.string ⟨d.toArray⟩, .bool neg]) ∧ w = w' := by
  subst h1 h2
  refine (Tryz.strings_CutPrefix s ⟨#[45]⟩ w).mono ?_
  rintro e w1 ⟨rfl, rfl⟩
  exact ⟨rfl, rfl⟩
theorem trim_minus {w : World} (s : ByteArray) {d : List UInt8} (h2 : Lib.trimPrefix s.data.toList [45] = d) :
    Calls Tryz.prog 39 #[.string s, .string ⟨#[45]⟩] w fun e w' => e = .returned (.string ⟨d.toArray⟩) ∧ w = w' := by
  subst h2
  refine (Tryz.strings_TrimPrefix s ⟨#[45]⟩ w).mono ?_
  rintro e w1 ⟨rfl, rfl⟩
  exact ⟨rfl, rfl⟩

set_option maxHeartbeats 800000 in
theorem wide_read_any {w : World} (s : ByteArray) (neg : Bool) (d : List UInt8) (h1 : Lib.hasPrefix s.data.toList [45] = neg) (h2 : Lib.trimPrefix s.data.toList [45] = d) (hd : ∀ c ∈ d, T.digit c = true) (hl : d.length ≤ 60000) :
    Calls Tryz.prog 79 #[.string s] w fun e w' => ∃ v, e = .returned v ∧ IsInt w' v (if neg then -(T.num d : Int) else T.num d) ∧ Below w.heap.size w w' := by
  have hR0 := Res.new w
  have hb0 : Below w.heap.size w (w.alloc (.cells #[.bool false, .slice none 0 0] 58)) := (Below.refl _ _).alloc (Nat.le_refl _) _
  obtain ⟨rb, hrb⟩ : ∃ rb, rb = (neg && decide (0 < T.num d)) := ⟨_, rfl⟩
  have hI : ∀ w' s, IsNat w' s (T.num d) → IsInt w' (.agg #[.bool rb, s]) (if neg then -(T.num d : Int) else T.num d) := by
    intro w' s h
    rw [hrb]
    exact isInt_of h (by split <;> omega) (fun h0 => by cases neg <;> simp <;> omega)
  obtain ⟨z, hz⟩ : ∃ z, z = (if neg then -(T.num d : Int) else T.num d) := ⟨_, rfl⟩
  rw [← hz] at hI ⊢
  have H := Lib.hid (And.intro hrb (And.intro hI (And.intro hd (And.intro h1 h2))))
  clear hrb hI hd h1 h2 hz
  go_enter Tryz.func79, Tryz.ntmps79
  go_wp2_with fail
  generalize w.alloc (.cells #[.bool false, .slice none 0 0] 58) = w0 at *
  have HR := Lib.hid (And.intro hR0 hb0)
  clear hR0 hb0
  refine (cut_minus s H.out.2.2.2.1 H.out.2.2.2.2).mono ?_
  rintro e w1 ⟨rfl, rfl⟩
  go_wp2_with fail
  refine (readNatural_any ⟨d.toArray⟩ (by simpa using H.out.2.2.1) (by simpa [ByteArray.size] using hl)).mono ?_
  rintro e w1 ⟨v, rfl, hv, hb1⟩
  rw [show (⟨d.toArray⟩ : ByteArray).data.toList = d by simp] at hv
  obtain ⟨A, l, c, rfl⟩ := hv.shape
  have HV := Lib.hid (And.intro hv hb1)
  clear hv hb1
  go_wp2_with fail
  refine (signed_b neg H.out.1 HV.out.1).mono ?_
  rintro e w2 ⟨rfl, hb2⟩
  have hR2 := (HR.out.1.next HV.out.2 HR.out.1.lt).next hb2 (Nat.lt_of_lt_of_le HR.out.1.lt HV.out.2.size)
  obtain ⟨v0, c0⟩ := hR2.c0
  obtain ⟨v1, c1⟩ := hR2.c1
  have f0 := hR2.f0
  have f1 := hR2.f1
  have z0 := hR2.put0 rb A l c
  have z1 := hR2.put1 rb A l c
  have hv3 := hR2.nat (HV.out.1.below hb2 (Nat.le_refl _)) rb A l c
  have hb3 : Below w.heap.size w ((w2.setCell ⟨w.heap.size, 0, none⟩ (.bool rb)).setCell ⟨w.heap.size, 1, none⟩ (.slice A l c)) :=
    (((HR.out.2.trans (HV.out.2.mono HR.out.2.size)).trans (hb2.mono (Nat.le_trans HR.out.2.size HV.out.2.size))).setCell (Nat.le_refl _) _).setCell (Nat.le_refl _) _
  have HF := Lib.hid (And.intro hv3 hb3)
  clear hR2 hb2 hv3 hb3
  have Z := Lib.hid (And.intro z0 z1)
  clear z0 z1
  go_wp2
  have z0 := Z.out.1
  have z1 := Z.out.2
  have hf := HF.out
  clear Z HF
  generalize ((w2.setCell ⟨w.heap.size, 0, none⟩ (.bool rb)).setCell ⟨w.heap.size, 1, none⟩ (.slice A l c)) = W3 at *
  exact bodyPost_ret (v := .agg #[.bool rb, .slice A l c]) (by simp [results, Tryz.results79, go_sem, z0, z1]) rfl ⟨_, rfl, H.out.2.1 _ _ hf.1, hf.2⟩

set_option maxHeartbeats 800000 in
theorem read_any {w : World} (s : ByteArray) {z : Int} (hs : s.data.toList = Lib.itoa z) (hl : Lib.nDigits z.natAbs ≤ 60000) :
    Calls Tryz.prog 56 #[.string s] w fun e w' => ∃ v, e = .returned v ∧ IsInt w' v z ∧ Below w.heap.size w w' := by
  have hR0 := Res.new w
  have hb0 : Below w.heap.size w (w.alloc (.cells #[.bool false, .slice none 0 0] 58)) := (Below.refl _ _).alloc (Nat.le_refl _) _
  have h1 : Lib.hasPrefix s.data.toList [45] = decide (z < 0) := by rw [hs, T.itoa_prefix]
  have h2 : Lib.trimPrefix s.data.toList [45] = Lib.decDigits z.natAbs := by rw [hs, T.itoa_trim]
  obtain ⟨rb, hrb⟩ : ∃ rb, rb = decide (z < 0) := ⟨_, rfl⟩
  have H := Lib.hid (And.intro h1 (And.intro h2 hrb))
  clear h1 h2 hrb hs
  go_enter Tryz.func56, Tryz.ntmps56
  go_wp2_with fail
  generalize w.alloc (.cells #[.bool false, .slice none 0 0] 58) = w0 at *
  have HR := Lib.hid (And.intro hR0 hb0)
  clear hR0 hb0
  refine (wide_read_any s _ _ H.out.1 H.out.2.1 (T.decDigits_digit _) (by rw [Lib.decDigits_length]; exact hl)).mono ?_
  rintro e w1 ⟨v, rfl, hv, hb1⟩
  rw [T.itoa_value] at hv
  obtain ⟨A, l, c, rfl, hv1⟩ := hv.shape_b H.out.2.2
  have hR2 := HR.out.1.next hb1 HR.out.1.lt
  obtain ⟨v0, c0⟩ := hR2.c0
  obtain ⟨v1, c1⟩ := hR2.c1
  have f0 := hR2.f0
  have f1 := hR2.f1
  have z0 := hR2.put0 rb A l c
  have z1 := hR2.put1 rb A l c
  have hv3 := hR2.int hv rb A l c
  have hb3 : Below w.heap.size w ((w1.setCell ⟨w.heap.size, 0, none⟩ (.bool rb)).setCell ⟨w.heap.size, 1, none⟩ (.slice A l c)) :=
    ((HR.out.2.trans (hb1.mono HR.out.2.size)).setCell (Nat.le_refl _) _).setCell (Nat.le_refl _) _
  have HF := Lib.hid (And.intro hv3 hb3)
  have Z := Lib.hid (And.intro z0 z1)
  clear hR2 hb1 hv3 hb3 hv hv1 z0 z1
  go_wp2
  have z0 := Z.out.1
  have z1 := Z.out.2
  have hf := HF.out
  clear Z HF
  generalize ((w1.setCell ⟨w.heap.size, 0, none⟩ (.bool rb)).setCell ⟨w.heap.size, 1, none⟩ (.slice A l c)) = W3 at *
  exact bodyPost_ret (v := .agg #[.bool rb, .slice A l c]) (by simp [results, Tryz.results56, go_sem, z0, z1]) rfl ⟨_, rfl, hf.1, hf.2⟩
end Go.Proofs.YtafknlnlejopeaaGreatDoor
